/-
  The document's own whole numbers. Regions as Inv4 has them, in which calls may also write single blocks that stood already (what is lent). No function is named here. LimbsNumbers answers true, whatever number and list of limbs it is handed. A whole number copied as it lies. The contract of the document's Text of a number below 0. Lowest terms, as numbers: fractions that are one number have one numerator and one denominator. No program is named here. The document's own fractions. The document's own fractions: read, told, asked. The document's own numbers as ints.
-/
import Derived.OpenShut
import Derived.Deep.LoopGhost
import Derived.Test.YtdiiankcjgoecaaDoorRTlLawZ2
namespace Go.Proofs.YtdiiankcjgoecaaDoor
namespace Lm
open Go Go.RowKit
theorem ncmp_lt {x y : Int} (h : Int.sign x < Int.sign y) : (-1 : Int) = cmpI x y := by
  refine (cmpI_lt ?_).symm
  rcases Int.lt_trichotomy x 0 with a | a | a <;> rcases Int.lt_trichotomy y 0 with b | b | b <;> simp_all [Int.sign_eq_neg_one_of_neg, Int.sign_eq_one_of_pos] <;> omega
theorem ncmp_gt {x y : Int} (hn : ¬ Int.sign x = Int.sign y) (h : ¬ Int.sign x < Int.sign y) : (1 : Int) = cmpI x y := by
  refine (cmpI_gt ?_).symm
  rcases Int.lt_trichotomy x 0 with a | a | a <;> rcases Int.lt_trichotomy y 0 with b | b | b <;> simp_all [Int.sign_eq_neg_one_of_neg, Int.sign_eq_one_of_pos] <;> omega
theorem cmpI_same {a b c d : Int} (h1 : a < b ↔ c < d) (h2 : a = b ↔ c = d) : cmpI a b = cmpI c d := by
  rcases Int.lt_trichotomy a b with h | h | h
  · rw [cmpI_lt h, cmpI_lt (h1.1 h)]
  · rw [cmpI_eq h, cmpI_eq (h2.1 h)]
  · rw [cmpI_gt h, cmpI_gt (by omega)]
theorem ncmp_neg {x y : Int} (hs : Int.sign x = Int.sign y) (hx : x < 0) : cmpI (y.natAbs : Int) (x.natAbs : Int) = cmpI x y := by
  have hy : y < 0 := by
    rw [Int.sign_eq_neg_one_of_neg hx] at hs
    exact Int.sign_eq_neg_one_iff_neg.1 hs.symm
  exact cmpI_same (by omega) (by omega)
theorem ncmp_pos {x y : Int} (hs : Int.sign x = Int.sign y) (hx : ¬ x < 0) : cmpI (x.natAbs : Int) (y.natAbs : Int) = cmpI x y := by
  have hy : ¬ y < 0 := by
    intro hy
    rw [Int.sign_eq_neg_one_of_neg hy] at hs
    exact hx (Int.sign_eq_neg_one_iff_neg.1 hs)
  exact cmpI_same (by omega) (by omega)
section
variable {dst : Option Tmp} {ty : TypeId} {pos : String} {after : Array Edge} {guard : Option (Nat × Bool)} {a : Act} {w : World} {ats : Array TypeId} {i j : Nat} {x y u v : Int} {L1 L2 : Nat}
theorem has_nsize : Has Tryd.prog 99 := by unfold Has; kernel_rfl
theorem op_nsize (h1 : OutN x L1 (a.eval (.tmp i)) w) (h2 : OutN y L2 (a.eval (.tmp j)) w) :
    Does Tryd.prog { dst, op := .call { callee := .value (.func 99), args := #[.tmp i, .tmp j], argTypes := ats }, type := ty, pos, after, guard } a.eval w fun v w' => Below w.heap.size w w' ∧ Eqs (.int .i64 (cmpI (x.natAbs : Int) (y.natAbs : Int))) v w' := by
  obtain ⟨ng, ao, cap, rs, e1, W, l⟩ := h1
  obtain ⟨mg, bo, dap, ss, e2, W', l'⟩ := h2
  refine does_call has_nsize _ (by simp only [List.map_toArray, List.map_cons, List.map_nil, e1, e2]) ((Dm.size_any w ng mg ao bo cap dap rs ss _ _ W.1 W'.1).mono ?_)
  rintro e w' ⟨rfl, hb⟩
  exact ⟨_, rfl, hb, rfl⟩
theorem op_neqi (h1 : a.eval (.tmp i) = .int .i64 u) (h2 : a.eval (.tmp j) = .int .i64 v) :
    Does Tryd.prog { dst, op := .binOp .neq 3 (.tmp i) (.tmp j) 3, type := ty, pos, after, guard } a.eval w fun v' w' => Below w.heap.size w w' ∧ Eqs (.bool (!decide (u = v))) v' w' := by
  refine does_bin (v := .bool (!decide (u = v))) ?_ ?_ ⟨Below.refl _ _, rfl⟩
  · rw [h1, h2]; simp [go_sem]
  · rw [h1, h2]; simp [go_sem]; rfl
theorem op_lssi (h1 : a.eval (.tmp i) = .int .i64 u) (h2 : a.eval (.tmp j) = .int .i64 v) :
    Does Tryd.prog { dst, op := .binOp .lss 3 (.tmp i) (.tmp j) 3, type := ty, pos, after, guard } a.eval w fun v' w' => Below w.heap.size w w' ∧ Eqs (.bool (decide (u < v))) v' w' := by
  refine does_bin (v := .bool (decide (u < v))) ?_ ?_ ⟨Below.refl _ _, rfl⟩
  · rw [h1, h2]; simp [go_sem]
  · rw [h1, h2]; simp [go_sem]
end
set_option maxRecDepth 20000 in
set_option maxHeartbeats 2000000 in
theorem ncmp_z (w : World) (Bx : Nat) (nx : Bool) (ax : Option Addr) (cx : Nat) (xs : List Int) (zx : Int) (Gx : Dm.Wh w nx ax cx xs zx) (Lx : xs.length ≤ Bx) (By : Nat) (ny : Bool) (ay : Option Addr) (cy : Nat) (ys : List Int) (zy : Int) (Gy : Dm.Wh w ny ay cy ys zy) (Ly : ys.length ≤ By)  :
    Calls Tryd.prog 65 #[.agg #[.bool nx, .slice ax xs.length cx], .agg #[.bool ny, .slice ay ys.length cy]] w fun e w' => ∃ v, e = .returned v ∧ (Eqs (.int .i64 (cmpI zx zy))) v w' ∧ Below w.heap.size w w' := by
  go_enter Tryd.func65, Tryd.ntmps65
  generalize hA : (Act.mk _ _) = aa
  have hn : aa.tmps.size = 23 := by rw [← hA]; rfl
  have hd : aa.defers = [] := by rw [← hA]
  have f0 : aa.eval (.tmp 0) = .agg #[.bool nx, .slice ax xs.length cx] := by rw [← hA]; rfl
  have f1 : aa.eval (.tmp 1) = .agg #[.bool ny, .slice ay ys.length cy] := by rw [← hA]; rfl
  clear hA
  have HB : Below w.heap.size w w := Below.refl _ _
  refine wp_seq ?_
  refine region4 [some 2, some 3, some 4] [(fun _ _ => True), (fun _ _ => True), Eqs ((.int .i64 0))] [⟨N2, some 0, 0, 2, .agg #[.bool nx, .slice ax xs.length cx], none, []⟩, ⟨N2, some 1, 0, 3, .agg #[.bool ny, .slice ay ys.length cy], none, []⟩] [] (by kernel_rfl) hn rfl (by kernel_rfl) (by kernel_rfl) (by kernel_rfl) (by kernel_rfl) (by kernel_rfl) (by kernel_rfl) ⟨True.mono4, True.mono4, Eqs.mono4 _, trivial⟩ (ok_cons N2ok (ok_cons N2ok ok_nil)) (IsOld.all (bx := [⟨N2, some 0, 0, 2, .agg #[.bool nx, .slice ax xs.length cx], none, []⟩, ⟨N2, some 1, 0, 3, .agg #[.bool ny, .slice ay ys.length cy], none, []⟩]) ⟨someNe, someNe, trivial⟩) (DisOld.all (bx := [⟨N2, some 0, 0, 2, .agg #[.bool nx, .slice ax xs.length cx], none, []⟩, ⟨N2, some 1, 0, 3, .agg #[.bool ny, .slice ay ys.length cy], none, []⟩]) ⟨someNe, someNe, trivial⟩) ?_ ?_
  · exact ⟨.alloc 0 _ rfl rfl (.inr ⟨_, rfl, n2_cs, fun a_ hR => (hR 0 rfl).trans f0⟩) rfl rfl rfl rfl rfl,
      .alloc 1 _ rfl rfl (.inr ⟨_, rfl, n2_cs, fun a_ hR => (hR 1 rfl).trans f1⟩) rfl rfl rfl rfl rfl,
      .norm 4 rfl rfl rfl (fun a_ w_ hn_ hBt hr hR hD hO hS => op_assign rfl),
      trivial⟩
  · intro a1 w1 gs1 hn1 hd1 hBt hr hR hP hX hU
    replace hn := hn1; replace hd := hd1.trans hd
    have b2 : BoxV N2 w1 (gs1 0) (.agg #[.bool nx, .slice ax xs.length cx]) := (hX 0 _ rfl).2.2.2
    have f2 := (hX 0 _ rfl).1
    have u2 : w.heap.size ≤ gs1 0 := Nat.le_trans HB.size ((hX 0 _ rfl).2.2.1 (by simp))
    have b3 : BoxV N2 w1 (gs1 1) (.agg #[.bool ny, .slice ay ys.length cy]) := (hX 1 _ rfl).2.2.2
    have f3 := (hX 1 _ rfl).1
    have u3 : w.heap.size ≤ gs1 1 := Nat.le_trans HB.size ((hX 1 _ rfl).2.2.1 (by simp))
    have e4 : a1.eval (.tmp 4) = (.int .i64 0) := hP 2 (by decide)
    have f4 := e4
    replace Gx := Gx.rl hr
    replace Gy := Gy.rl hr
    replace HB := HB.trans (hBt.below HB.size (UpOld.all (bx := [⟨N2, some 0, 0, 2, .agg #[.bool nx, .slice ax xs.length cx], none, []⟩, ⟨N2, some 1, 0, 3, .agg #[.bool ny, .slice ay ys.length cy], none, []⟩]) ⟨someNe, someNe, trivial⟩))
    clear hBt hr hR hP hX hU
    refine wp_seq ?_
    refine wp_seq ?_
    refine region4 [some 5, some 6, some 7, some 8, some 9] [Eqs (.agg #[.bool nx, .slice ax xs.length cx]), Eqs (.int .i64 (Int.sign zx)), Eqs (.agg #[.bool ny, .slice ay ys.length cy]), Eqs (.int .i64 (Int.sign zy)), Eqs (.bool (!decide ((Int.sign zx) = (Int.sign zy))))] [] [] (by kernel_rfl) hn rfl (by kernel_rfl) (by kernel_rfl) (by kernel_rfl) (by kernel_rfl) (by kernel_rfl) (by kernel_rfl) ⟨Eqs.mono4 _, Eqs.mono4 _, Eqs.mono4 _, Eqs.mono4 _, Eqs.mono4 _, trivial⟩ ok_nil (IsOld.all (bx := []) trivial) (DisOld.all (bx := []) trivial) ?_ ?_
    · exact ⟨.norm 5 rfl rfl rfl (fun a_ w_ hn_ hBt hr hR hD hO hS => op_loadv N2ok ((hR 2 rfl).trans f2) (b2.keep hBt trivial)),
        .norm 6 rfl rfl rfl (fun a_ w_ hn_ hBt hr hR hD hO hS => op_nsign (outn_eq (show a_.eval (.tmp 5) = .agg #[.bool nx, .slice ax xs.length cx] from hD 0 rfl) (Gx.rl hr) Lx)),
        .norm 7 rfl rfl rfl (fun a_ w_ hn_ hBt hr hR hD hO hS => op_loadv N2ok ((hR 3 rfl).trans f3) (b3.keep hBt trivial)),
        .norm 8 rfl rfl rfl (fun a_ w_ hn_ hBt hr hR hD hO hS => op_nsign (outn_eq (show a_.eval (.tmp 7) = .agg #[.bool ny, .slice ay ys.length cy] from hD 2 rfl) (Gy.rl hr) Ly)),
        .norm 9 rfl rfl rfl (fun a_ w_ hn_ hBt hr hR hD hO hS => op_neqi (show a_.eval (.tmp 6) = .int .i64 (Int.sign zx) from hD 1 rfl) (show a_.eval (.tmp 8) = .int .i64 (Int.sign zy) from hD 3 rfl)),
        trivial⟩
    · intro a2 w2 gs2 hn2 hd2 hBt hr hR hP hX hU
      replace hn := hn2; replace hd := hd2.trans hd
      replace b2 := b2.keep hBt trivial
      replace b3 := b3.keep hBt trivial
      replace f2 := (hR 2 rfl).trans f2
      replace f3 := (hR 3 rfl).trans f3
      replace f4 := (hR 4 rfl).trans f4
      have e9 : a2.eval (.tmp 9) = .bool (!decide ((Int.sign zx) = (Int.sign zy))) := hP 4 (by decide)
      have f9 := e9
      replace Gx := Gx.rl hr
      replace Gy := Gy.rl hr
      replace HB := HB.trans (hBt.below HB.size (UpOld.all (bx := []) trivial))
      clear hBt hr hR hP hX hU
      refine wp_cond_split f9 (fun hc9 => ?_) (fun hc9 => ?_)
      · skip
        refine wp_seq ?_
        refine wp_seq ?_
        refine region4 [some 10, some 11, some 12, some 13, some 14] [Eqs (.agg #[.bool nx, .slice ax xs.length cx]), Eqs (.int .i64 (Int.sign zx)), Eqs (.agg #[.bool ny, .slice ay ys.length cy]), Eqs (.int .i64 (Int.sign zy)), Eqs (.bool (decide ((Int.sign zx) < (Int.sign zy))))] [] [] (by kernel_rfl) hn rfl (by kernel_rfl) (by kernel_rfl) (by kernel_rfl) (by kernel_rfl) (by kernel_rfl) (by kernel_rfl) ⟨Eqs.mono4 _, Eqs.mono4 _, Eqs.mono4 _, Eqs.mono4 _, Eqs.mono4 _, trivial⟩ ok_nil (IsOld.all (bx := []) trivial) (DisOld.all (bx := []) trivial) ?_ ?_
        · exact ⟨.norm 10 rfl rfl rfl (fun a_ w_ hn_ hBt hr hR hD hO hS => op_loadv N2ok ((hR 2 rfl).trans f2) (b2.keep hBt trivial)),
            .norm 11 rfl rfl rfl (fun a_ w_ hn_ hBt hr hR hD hO hS => op_nsign (outn_eq (show a_.eval (.tmp 10) = .agg #[.bool nx, .slice ax xs.length cx] from hD 0 rfl) (Gx.rl hr) Lx)),
            .norm 12 rfl rfl rfl (fun a_ w_ hn_ hBt hr hR hD hO hS => op_loadv N2ok ((hR 3 rfl).trans f3) (b3.keep hBt trivial)),
            .norm 13 rfl rfl rfl (fun a_ w_ hn_ hBt hr hR hD hO hS => op_nsign (outn_eq (show a_.eval (.tmp 12) = .agg #[.bool ny, .slice ay ys.length cy] from hD 2 rfl) (Gy.rl hr) Ly)),
            .norm 14 rfl rfl rfl (fun a_ w_ hn_ hBt hr hR hD hO hS => op_lssi (show a_.eval (.tmp 11) = .int .i64 (Int.sign zx) from hD 1 rfl) (show a_.eval (.tmp 13) = .int .i64 (Int.sign zy) from hD 3 rfl)),
            trivial⟩
        · intro a3 w3 gs3 hn3 hd3 hBt hr hR hP hX hU
          replace hn := hn3; replace hd := hd3.trans hd
          replace b2 := b2.keep hBt trivial
          replace b3 := b3.keep hBt trivial
          replace f2 := (hR 2 rfl).trans f2
          replace f3 := (hR 3 rfl).trans f3
          replace f4 := (hR 4 rfl).trans f4
          have e14 : a3.eval (.tmp 14) = .bool (decide ((Int.sign zx) < (Int.sign zy))) := hP 4 (by decide)
          have f14 := e14
          replace Gx := Gx.rl hr
          replace Gy := Gy.rl hr
          replace HB := HB.trans (hBt.below HB.size (UpOld.all (bx := []) trivial))
          clear hBt hr hR hP hX hU
          refine wp_cond_split f14 (fun hc14 => ?_) (fun hc14 => ?_)
          · skip
            refine wp_seq ?_
            refine region4 [some 4] [Eqs ((.int .i64 (-1)))] [] [] (by kernel_rfl) hn rfl (by kernel_rfl) (by kernel_rfl) (by kernel_rfl) (by kernel_rfl) (by kernel_rfl) (by kernel_rfl) ⟨Eqs.mono4 _, trivial⟩ ok_nil (IsOld.all (bx := []) trivial) (DisOld.all (bx := []) trivial) ?_ ?_
            · exact ⟨.norm 4 rfl rfl rfl (fun a_ w_ hn_ hBt hr hR hD hO hS => op_assign rfl),
                trivial⟩
            · intro a4 w4 gs4 hn4 hd4 hBt hr hR hP hX hU
              replace hn := hn4; replace hd := hd4.trans hd
              replace b2 := b2.keep hBt trivial
              replace b3 := b3.keep hBt trivial
              replace f2 := (hR 2 rfl).trans f2
              replace f3 := (hR 3 rfl).trans f3
              have e4 : a4.eval (.tmp 4) = (.int .i64 (-1)) := hP 0 (by decide)
              have f4 := e4
              replace Gx := Gx.rl hr
              replace Gy := Gy.rl hr
              replace HB := HB.trans (hBt.below HB.size (UpOld.all (bx := []) trivial))
              clear hBt hr hR hP hX hU
              refine wp_ret ?_
              repeat (first | refine then_ret ?_ | refine scope_ret ?_ | refine block_ret ?_)
              exact bodyPost_ret (v := .int .i64 (-1)) (res_t rfl f4) hd ⟨_, rfl, congrArg (Value.int .i64) (ncmp_lt (of_decide_eq_true hc14)), HB⟩
          · skip
            refine wp_skip ?_
            refine wp_seq ?_
            refine region4 [some 4] [Eqs ((.int .i64 1))] [] [] (by kernel_rfl) hn rfl (by kernel_rfl) (by kernel_rfl) (by kernel_rfl) (by kernel_rfl) (by kernel_rfl) (by kernel_rfl) ⟨Eqs.mono4 _, trivial⟩ ok_nil (IsOld.all (bx := []) trivial) (DisOld.all (bx := []) trivial) ?_ ?_
            · exact ⟨.norm 4 rfl rfl rfl (fun a_ w_ hn_ hBt hr hR hD hO hS => op_assign rfl),
                trivial⟩
            · intro a5 w5 gs5 hn5 hd5 hBt hr hR hP hX hU
              replace hn := hn5; replace hd := hd5.trans hd
              replace b2 := b2.keep hBt trivial
              replace b3 := b3.keep hBt trivial
              replace f2 := (hR 2 rfl).trans f2
              replace f3 := (hR 3 rfl).trans f3
              have e4 : a5.eval (.tmp 4) = (.int .i64 1) := hP 0 (by decide)
              have f4 := e4
              replace Gx := Gx.rl hr
              replace Gy := Gy.rl hr
              replace HB := HB.trans (hBt.below HB.size (UpOld.all (bx := []) trivial))
              clear hBt hr hR hP hX hU
              refine wp_ret ?_
              repeat (first | refine then_ret ?_ | refine scope_ret ?_ | refine block_ret ?_)
              exact bodyPost_ret (v := .int .i64 1) (res_t rfl f4) hd ⟨_, rfl, congrArg (Value.int .i64) (ncmp_gt (by simpa using hc9) (of_decide_eq_false hc14)), HB⟩
      · skip
        refine wp_skip ?_
        refine wp_seq ?_
        refine wp_seq ?_
        refine region4 [some 15, some 16] [Eqs (.pointer (some ⟨gs1 0, 0, none⟩)), Eqs (.bool nx)] [] [] (by kernel_rfl) hn rfl (by kernel_rfl) (by kernel_rfl) (by kernel_rfl) (by kernel_rfl) (by kernel_rfl) (by kernel_rfl) ⟨Eqs.mono4 _, Eqs.mono4 _, trivial⟩ ok_nil (IsOld.all (bx := []) trivial) (DisOld.all (bx := []) trivial) ?_ ?_
        · exact ⟨.norm 15 rfl rfl rfl (fun a_ w_ hn_ hBt hr hR hD hO hS => op_faN fa_nneg ((hR 2 rfl).trans f2)),
            .norm 16 rfl rfl rfl (fun a_ w_ hn_ hBt hr hR hD hO hS => op_ldnneg (show a_.eval (.tmp 15) = .pointer (some ⟨gs1 0, 0, none⟩) from hD 0 rfl) (b2.keep hBt trivial)),
            trivial⟩
        · intro a6 w6 gs6 hn6 hd6 hBt hr hR hP hX hU
          replace hn := hn6; replace hd := hd6.trans hd
          replace b2 := b2.keep hBt trivial
          replace b3 := b3.keep hBt trivial
          replace f2 := (hR 2 rfl).trans f2
          replace f3 := (hR 3 rfl).trans f3
          replace f4 := (hR 4 rfl).trans f4
          have e16 : a6.eval (.tmp 16) = .bool nx := hP 1 (by decide)
          have f16 := e16
          replace Gx := Gx.rl hr
          replace Gy := Gy.rl hr
          replace HB := HB.trans (hBt.below HB.size (UpOld.all (bx := []) trivial))
          clear hBt hr hR hP hX hU
          refine wp_cond_split f16 (fun hc16 => ?_) (fun hc16 => ?_)
          · skip
            refine wp_seq ?_
            refine region4 [some 17, some 18, some 19, some 4] [Eqs (.agg #[.bool ny, .slice ay ys.length cy]), Eqs (.agg #[.bool nx, .slice ax xs.length cx]), Eqs (.int .i64 (cmpI ((zy).natAbs : Int) ((zx).natAbs : Int))), Eqs (.int .i64 (cmpI ((zy).natAbs : Int) ((zx).natAbs : Int)))] [] [] (by kernel_rfl) hn rfl (by kernel_rfl) (by kernel_rfl) (by kernel_rfl) (by kernel_rfl) (by kernel_rfl) (by kernel_rfl) ⟨Eqs.mono4 _, Eqs.mono4 _, Eqs.mono4 _, Eqs.mono4 _, trivial⟩ ok_nil (IsOld.all (bx := []) trivial) (DisOld.all (bx := []) trivial) ?_ ?_
            · exact ⟨.norm 17 rfl rfl rfl (fun a_ w_ hn_ hBt hr hR hD hO hS => op_loadv N2ok ((hR 3 rfl).trans f3) (b3.keep hBt trivial)),
                .norm 18 rfl rfl rfl (fun a_ w_ hn_ hBt hr hR hD hO hS => op_loadv N2ok ((hR 2 rfl).trans f2) (b2.keep hBt trivial)),
                .norm 19 rfl rfl rfl (fun a_ w_ hn_ hBt hr hR hD hO hS => op_nsize (outn_eq (show a_.eval (.tmp 17) = .agg #[.bool ny, .slice ay ys.length cy] from hD 0 rfl) (Gy.rl hr) Ly) (outn_eq (show a_.eval (.tmp 18) = .agg #[.bool nx, .slice ax xs.length cx] from hD 1 rfl) (Gx.rl hr) Lx)),
                .norm 4 rfl rfl rfl (fun a_ w_ hn_ hBt hr hR hD hO hS => op_assign (show a_.eval (.tmp 19) = .int .i64 (cmpI ((zy).natAbs : Int) ((zx).natAbs : Int)) from hD 2 rfl)),
                trivial⟩
            · intro a7 w7 gs7 hn7 hd7 hBt hr hR hP hX hU
              replace hn := hn7; replace hd := hd7.trans hd
              replace b2 := b2.keep hBt trivial
              replace b3 := b3.keep hBt trivial
              replace f2 := (hR 2 rfl).trans f2
              replace f3 := (hR 3 rfl).trans f3
              have e4 : a7.eval (.tmp 4) = .int .i64 (cmpI ((zy).natAbs : Int) ((zx).natAbs : Int)) := hP 3 (by decide)
              have f4 := e4
              replace Gx := Gx.rl hr
              replace Gy := Gy.rl hr
              replace HB := HB.trans (hBt.below HB.size (UpOld.all (bx := []) trivial))
              clear hBt hr hR hP hX hU
              refine wp_ret ?_
              repeat (first | refine then_ret ?_ | refine scope_ret ?_ | refine block_ret ?_)
              exact bodyPost_ret (v := .int .i64 (cmpI ((zy).natAbs : Int) ((zx).natAbs : Int))) (res_t rfl f4) hd ⟨_, rfl, congrArg (Value.int .i64) (ncmp_neg (by simpa using hc9) (by have h := Gx.2; rw [hc16] at h; exact of_decide_eq_true h.symm)), HB⟩
          · skip
            refine wp_skip ?_
            refine wp_seq ?_
            refine region4 [some 20, some 21, some 22, some 4] [Eqs (.agg #[.bool nx, .slice ax xs.length cx]), Eqs (.agg #[.bool ny, .slice ay ys.length cy]), Eqs (.int .i64 (cmpI ((zx).natAbs : Int) ((zy).natAbs : Int))), Eqs (.int .i64 (cmpI ((zx).natAbs : Int) ((zy).natAbs : Int)))] [] [] (by kernel_rfl) hn rfl (by kernel_rfl) (by kernel_rfl) (by kernel_rfl) (by kernel_rfl) (by kernel_rfl) (by kernel_rfl) ⟨Eqs.mono4 _, Eqs.mono4 _, Eqs.mono4 _, Eqs.mono4 _, trivial⟩ ok_nil (IsOld.all (bx := []) trivial) (DisOld.all (bx := []) trivial) ?_ ?_
            · exact ⟨.norm 20 rfl rfl rfl (fun a_ w_ hn_ hBt hr hR hD hO hS => op_loadv N2ok ((hR 2 rfl).trans f2) (b2.keep hBt trivial)),
                .norm 21 rfl rfl rfl (fun a_ w_ hn_ hBt hr hR hD hO hS => op_loadv N2ok ((hR 3 rfl).trans f3) (b3.keep hBt trivial)),
                .norm 22 rfl rfl rfl (fun a_ w_ hn_ hBt hr hR hD hO hS => op_nsize (outn_eq (show a_.eval (.tmp 20) = .agg #[.bool nx, .slice ax xs.length cx] from hD 0 rfl) (Gx.rl hr) Lx) (outn_eq (show a_.eval (.tmp 21) = .agg #[.bool ny, .slice ay ys.length cy] from hD 1 rfl) (Gy.rl hr) Ly)),
                .norm 4 rfl rfl rfl (fun a_ w_ hn_ hBt hr hR hD hO hS => op_assign (show a_.eval (.tmp 22) = .int .i64 (cmpI ((zx).natAbs : Int) ((zy).natAbs : Int)) from hD 2 rfl)),
                trivial⟩
            · intro a8 w8 gs8 hn8 hd8 hBt hr hR hP hX hU
              replace hn := hn8; replace hd := hd8.trans hd
              have e4 : a8.eval (.tmp 4) = .int .i64 (cmpI ((zx).natAbs : Int) ((zy).natAbs : Int)) := hP 3 (by decide)
              have f4 := e4
              replace Gx := Gx.rl hr
              replace Gy := Gy.rl hr
              replace HB := HB.trans (hBt.below HB.size (UpOld.all (bx := []) trivial))
              clear hBt hr hR hP hX hU
              refine wp_ret ?_
              repeat (first | refine then_ret ?_ | refine scope_ret ?_ | refine block_ret ?_)
              exact bodyPost_ret (v := .int .i64 (cmpI ((zx).natAbs : Int) ((zy).natAbs : Int))) (res_t rfl f4) hd ⟨_, rfl, congrArg (Value.int .i64) (ncmp_pos (by simpa using hc9) (by have h := Gx.2; rw [hc16] at h; exact of_decide_eq_false h.symm)), HB⟩
theorem has_ncmp : Has Tryd.prog 65 := by unfold Has; kernel_rfl
theorem op_ncmp {dst : Option Tmp} {ty : TypeId} {pos : String} {after : Array Edge} {guard : Option (Nat × Bool)} {a : Act} {w : World} {ats : Array TypeId} {i j : Nat} {Bx : Nat} {zx : Int} (Hx : OutN zx Bx (a.eval (.tmp i)) w) {By : Nat} {zy : Int} (Hy : OutN zy By (a.eval (.tmp j)) w)  :
    Does Tryd.prog { dst, op := .call { callee := .value (.func 65), args := #[.tmp i, .tmp j], argTypes := ats }, type := ty, pos, after, guard } a.eval w fun v w' => Below w.heap.size w w' ∧ (Eqs (.int .i64 (cmpI zx zy))) v w' := by
  obtain ⟨nx, ax, cx, xs, ex, Gx, Lx⟩ := Hx
  obtain ⟨ny, ay, cy, ys, ey, Gy, Ly⟩ := Hy
  refine does_call has_ncmp _ (by simp only [List.map_toArray, List.map_cons, List.map_nil, ex, ey]) ((ncmp_z w Bx _ _ _ _ _ Gx Lx By _ _ _ _ _ Gy Ly ).mono ?_)
  rintro e w' ⟨v, rfl, h1, hb⟩
  exact ⟨_, rfl, hb, h1⟩
end Lm
end Go.Proofs.YtdiiankcjgoecaaDoor

namespace Go.Proofs.YtdiiankcjgoecaaDoor
namespace Lm
open Go Go.RowKit
structure Xb where
  i : Nat
  m : Nat
  S : Says
section
variable {P : Program} {n : Nat} {Ds : List (Option Nat)} {Ps : List Says} {bx : List Bx} {Xt : List Xb} {a0 : Act} {w0 : World} {l : Array Bool} {a : Act} {w w' : World} {i d : Nat} {v : Value}
end
end Lm
end Go.Proofs.YtdiiankcjgoecaaDoor

namespace Go.Proofs.YtdiiankcjgoecaaDoor
namespace Lm
open Go.RowKit
theorem row_cells {w : World} {b off : Nat} {zs : List Int} (hc : ∀ i, i < zs.length → w.cell? ⟨b, off + i, none⟩ = some (.int .u32 (zs.getD i 0))) : ∀ j u, (zs.map (Value.int .u32))[j]? = some u → w.cell? ((⟨b, off, none⟩ : Addr).add j) = some u := by
  intro j u hu
  rw [List.getElem?_map] at hu
  have hj : j < zs.length := by
    apply Classical.byContradiction
    intro hn
    rw [List.getElem?_eq_none (by omega)] at hu
    cases hu
  rw [List.getElem?_eq_getElem hj] at hu
  have hcj := hc j hj
  rw [List.getD_eq_getElem?_getD, List.getElem?_eq_getElem hj] at hcj
  rw [show ((⟨b, off, none⟩ : Addr).add j) = ⟨b, off + j, none⟩ from by simp [Addr.add], hcj]
  exact hu
theorem row_one (zs : List Int) : ∀ u ∈ zs.map (Value.int .u32), u.oneCell' = true := by
  intro u hu
  obtain ⟨z, _, rfl⟩ := List.mem_map.1 hu
  rfl
set_option maxRecDepth 20000 in
set_option maxHeartbeats 400000 in
theorem copy_any (w : World) (ao : Option Addr) (n cap : Nat) (xs : List Int) (hx : Sl w (.slice ao n cap) xs) (hl : xs.length ≤ 1000000) :
    Calls Tryd.prog 48 #[.slice ao n cap] w fun e w' => ∃ v, e = .returned v ∧ Ow w.heap.size w' v xs ∧ Below w.heap.size w w' := by
  obtain ⟨rfl, h1, h2, h3⟩ := hx.parts
  obtain ⟨i0, hi, hz0, hz1, hz2⟩ := info_parts info32
  by_cases h0 : 0 < xs.length
  · obtain ⟨b, off, rfl, hc⟩ := hx.cells h0
    have hcells := row_cells hc
    have H3 := hide h3
    clear hc h3 hx
    go_enter Tryd.func48, Tryd.ntmps48
    go_wp2_with (at_builtin; refine wpList_append_own _ rfl (.const (.slice none 0 0)) (.tmp 3) 22 rfl w.heap.size 124 i0 (.int .u32 0) 1 4 Tryd.underlying22 hi hz0 hz1 hz2 rfl (by decide) _ _ _ rfl (World.ownsRow_nil _ _ _ _) ⟨b, off, none⟩ xs.length cap (xs.map (Value.int .u32)) rfl (by simp) hcells (row_one xs) (by unfold maxLen; omega) (by omega) (by simp) ?_)
    intro v' w1 hown hgrow _
    have hb1 : Below w.heap.size w w1 := (Below.refl w.heap.size w).grown hgrow (by simp) (by intro k hk; simp [Value.ownBlock] at hk)
    have how := ow_of_row (zs := xs) (by simpa using hown) H3.out
    clear hown hgrow
    go_wp2
    go_ret
    exact ⟨_, rfl, how, hb1⟩
  · have e : xs = [] := List.eq_nil_of_length_eq_zero (by omega)
    subst e
    cases ao with
    | none =>
      go_enter Tryd.func48, Tryd.ntmps48
      go_wp2
      go_ret
      exact ⟨_, rfl, ⟨none, 0, rfl, Nat.le_refl _, by simp [maxLen], limb_nil, .inl rfl⟩, Below.refl _ _⟩
    | some ad =>
      go_enter Tryd.func48, Tryd.ntmps48
      go_wp2
      go_ret
      exact ⟨_, rfl, ⟨none, 0, rfl, Nat.le_refl _, by simp [maxLen], limb_nil, .inl rfl⟩, Below.refl _ _⟩
end Lm
end Go.Proofs.YtdiiankcjgoecaaDoor

namespace Go.Proofs.YtdiiankcjgoecaaDoor
namespace Lm
open Go Go.RowKit
def OwL (K : Nat) (zs : List Int) : Says := fun v w => ∃ ao cap, v = .slice ao zs.length cap ∧ Ow K w v zs
section
variable {dst : Option Tmp} {ty : TypeId} {pos : String} {after : Array Edge} {guard : Option (Nat × Bool)} {a : Act} {w : World} {ats : Array TypeId} {i j : Nat}
theorem has_lcopy0 : Has Tryd.prog 48 := by unfold Has; kernel_rfl
theorem op_lcopyO {K : Nat} {ao : Option Addr} {n c : Nat} {zs : List Int} (h : a.eval (.tmp i) = .slice ao n c) (S : Sl w (.slice ao n c) zs) (hl : zs.length ≤ 1000000) (hK : K ≤ w.heap.size) :
    Does Tryd.prog { dst, op := .call { callee := .value (.func 48), args := #[.tmp i], argTypes := ats }, type := ty, pos, after, guard } a.eval w fun v w' => Below w.heap.size w w' ∧ OwL K zs v w' := by
  refine does_call has_lcopy0 _ (by simp only [List.map_toArray, List.map_cons, List.map_nil, h]) ((copy_any w _ _ _ zs S hl).mono ?_)
  rintro e w' ⟨v, rfl, ho, hb⟩
  refine ⟨_, rfl, hb, ?_⟩
  obtain ⟨ao', cap', hv, _⟩ := id ho
  exact ⟨ao', cap', hv, ho.mono hK⟩
end
section
variable {dst : Option Tmp} {ty : TypeId} {pos : String} {after : Array Edge} {guard : Option (Nat × Bool)} {a : Act} {w : World} {ats : Array TypeId} {i j : Nat}
end
end Lm
end Go.Proofs.YtdiiankcjgoecaaDoor

namespace Go.Proofs.YtdiiankcjgoecaaDoor
namespace Dm
open Go.RowKit
open Lm (bytesOf bytesOf_length bytesOf_getD strOf_bytes bytes_strOf bytes_tail tail_val end_dec sizeOf' hide lt_of_cell lt_of_heap IsDec Dig dval p10 p10_pos dig_cons dig_nil dig_drop dval_cons48 dec_step dec_bound dval_bounds isDec_one)
theorem minus_str (ds : List Int) : strOfNums (45 :: ds) = strOfNums [45] ++ strOfNums ds := (str_append [45] ds).symm
set_option maxRecDepth 20000 in
set_option maxHeartbeats 2000000 in
theorem rtext_minus (w : World) (ao : Option Addr) (cap : Nat) (D : List Int) (x : Int) (hD : Got w ao cap D x) (hl : D.length ≤ 100000) (h0 : 0 < D.length) :
    Calls Tryd.prog 49 #[.agg #[.bool true, .slice ao D.length cap]] w fun e w' => ∃ ds, e = .returned (.string (strOfNums (45 :: ds))) ∧ IsDec ds x ∧ Below w.heap.size w w' := by
  obtain ⟨_, h1, h2, h3⟩ := hD.sl.parts
  have hb0 : Below w.heap.size w (w.alloc (.cells #[.bool true, .slice ao D.length cap] 77)) := (Below.refl _ _).alloc (Nat.le_refl _) _
  have sD := hD.sl.below hb0
  obtain ⟨b, off, rfl, hc⟩ := sD.cells h0
  have hne : (((D.length : Nat) : Int) == 0) = false := beq_eq_false_iff_ne.2 (by omega)
  have H3 := hide h3
  have HV := hide hD.val
  have HC := hide hc
  have hxp : Hid (0 < x) := by
    have := val_pos_tl hD.canon.1 (by rw [hD.canon.2]; exact h0)
    rwa [hD.val] at this
  clear h3 hD sD hc
  go_enter Tryd.func49, Tryd.ntmps49
  go_wp2
  go_loop [3, 4] (fun sv iv => ∃ (k : Nat) (T : List Int), k ≤ D.length ∧ iv = .int .i64 k ∧ sv = .string (strOfNums T) ∧ Dig T ∧ T.length = 4 * k ∧ dval T = val (D.take k)) (fun _ iv => D.length - (intOf iv).toNat)
  case atStart => exact ⟨0, [], Nat.zero_le _, rfl, rfl, dig_nil, rfl, by simp [dval, val]⟩
  case round =>
    obtain ⟨k, T, hk, rfl, rfl, hT, hTl, hTv⟩ := hrel
    have HT := hide hT
    have HTL := hide hTl
    have HTV := hide hTv
    clear hT hTl hTv
    by_cases hlt : k < D.length
    · have ck := HC.out k hlt
      have bz := limb_getD H3.out k
      have Hz := hide (take_succ_getD D k hlt)
      generalize D.getD k 0 = z at ck bz Hz
      have d1 : (k : Int) < (D.length : Int) := by omega
      go_wp2
      go_loop [5, 6, 7] (fun vv fv jv => ∃ (j : Nat) (u : Int) (F : List Int), j ≤ 4 ∧ jv = .int .i64 j ∧ vv = .int .i64 u ∧ fv = .string (strOfNums F) ∧ 0 ≤ u ∧ u < p10 (4 - j) ∧ Dig F ∧ F.length = j ∧ dval F + p10 F.length * u = z) (fun _ _ jv => 4 - (intOf jv).toNat)
      case atStart => exact ⟨0, z, [], by omega, rfl, rfl, rfl, bz.1, by rw [show p10 (4 - 0) = 10000 from by decide]; exact bz.2, dig_nil, rfl, by simp [dval, p10]⟩
      case round =>
        obtain ⟨j, u, F, hj, rfl, rfl, rfl, hu0, hu1, hF, hFl, hFv⟩ := hrel
        have HU := hide hu1
        have HF := hide hF
        have HFL := hide hFl
        have HFV := hide hFv
        clear hu1 hF hFl hFv
        by_cases hj4 : j < 4
        · have e1 := digit_str (u % 10) (by omega) (by omega)
          have hu2 : u < 10000 := by
            have h8 := HU.out
            have h9 := Lm.p10_mono (m := 4 - j) (n := 4) (by omega)
            rw [show p10 4 = 10000 from by decide] at h9
            omega
          have hus : (strOfNums F).size ≤ 4 := by rw [strOfNums_size, HFL.out]; omega
          have hus1 : (strOfNums [48 + u % 10]).size ≤ 1 := by rw [strOfNums_size]; simp
          have HFV' := hide (four_step HFV.out)
          have HU' : Hid (0 ≤ u / 10 ∧ u / 10 < p10 (4 - (j + 1))) := by
            obtain ⟨i, hi⟩ : ∃ i, 4 - j = i + 1 := ⟨3 - j, by omega⟩
            have h9 := HU.out
            rw [hi] at h9
            have h10 := dec_bound hu0 h9
            rw [show 4 - (j + 1) = i by omega]
            exact h10
          have HS : Hid (strOfNums [48 + u % 10] ++ strOfNums F = strOfNums ((48 + u % 10) :: F)) := str_append _ _
          go_wp2
          go_round
          case rel => exact ⟨j + 1, u / 10, (48 + u % 10) :: F, by omega, by go_num, rfl, by rw [← HS.out], HU'.out.1, HU'.out.2, dig_cons.2 ⟨by omega, HF.out⟩, by have := HFL.out; simp; omega, HFV'.out⟩
          case measure => simp [intOf]; omega
        · have hj' : j = 4 := by omega
          have hu : u = 0 := by have := HU.out; rw [hj', show p10 (4 - 4) = 1 from by decide] at this; omega
          have hFz : Hid (dval F = z) := by have := HFV.out; rw [hu, Int.mul_zero, Int.add_zero] at this; exact this
          have hFl4 : Hid (F.length = 4) := by have := HFL.out; rw [hj'] at this; exact this
          have HR : Hid (dval (F ++ T) = val (D.take (k + 1))) := by
            refine text_round hFz.out hFl4.out HTV.out HTL.out ?_
            rw [Hz.out, val_snoc, List.length_take, Nat.min_eq_left (by omega)]
          have hus : (strOfNums F).size ≤ 4 := by rw [strOfNums_size, hFl4.out]; omega
          have hus2 : (strOfNums T).size ≤ 400000 := by rw [strOfNums_size, HTL.out]; omega
          have HS : Hid (strOfNums F ++ strOfNums T = strOfNums (F ++ T)) := str_append _ _
          have HDg : Hid (Dig (F ++ T)) := by
            intro c hc
            rcases List.mem_append.1 hc with h | h
            · exact HF.out c h
            · exact HT.out c h
          clear hj' hu
          go_wp2
          go_round
          case rel => exact ⟨k + 1, F ++ T, by omega, by go_num, by rw [← HS.out], HDg.out, by rw [List.length_append, hFl4.out, HTL.out]; omega, HR.out⟩
          case measure => simp [intOf]; omega
    · have hkn : k = D.length := by omega
      have HX : Hid (dval T = x) := by have := HTV.out; rwa [hkn, List.take_of_length_le (Nat.le_refl _), HV.out] at this
      have hTl1 : Hid (1 ≤ T.length) := by have := HTL.out; show _ ≤ _; omega
      have d1 : ¬ (k : Int) < (D.length : Int) := by omega
      have hkb : k ≤ 100000 := by omega
      clear hkn
      go_wp2
      go_loop [3] (fun sv => ∃ t : ByteArray, sv = .string t ∧ 1 ≤ t.size ∧ t.size ≤ 400000 ∧ Dig (bytesOf t) ∧ dval (bytesOf t) = x) (fun sv => sizeOf' sv)
      case atStart => exact ⟨strOfNums T, rfl, by rw [strOfNums_size]; exact hTl1.out, by rw [strOfNums_size, HTL.out]; omega, by rw [bytes_strOf HT.out]; exact HT.out, by rw [bytes_strOf HT.out]; exact HX.out⟩
      case round =>
        obtain ⟨t, rfl, ht1, ht4, htd, htv⟩ := hrel
        have HTD := hide htd
        have HTv := hide htv
        clear htd htv
        by_cases h1t : 1 < t.size
        · have hp : 0 < t.size := by omega
          have hgd := bytesOf_getD t 0 hp
          have h1i : (1 : Int) < (t.size : Int) := by omega
          by_cases hz : ((t[0]'hp).toNat : Int) = 48
          · have hzb : (((t[0]'hp).toNat : Int) == 48) = true := beq_iff_eq.2 hz
            have hes : (t.extract 1 t.size).size = t.size - 1 := by rw [← bytesOf_length, bytes_tail, List.length_drop, bytesOf_length]
            have R : Hid (1 ≤ (t.extract 1 t.size).size ∧ (t.extract 1 t.size).size ≤ 400000 ∧ Dig (bytesOf (t.extract 1 t.size)) ∧ dval (bytesOf (t.extract 1 t.size)) = x) :=
              ⟨by omega, by omega, by rw [bytes_tail]; exact dig_drop HTD.out 1, by rw [bytes_tail]; exact tail_val HTv.out (by rw [hgd, hz])⟩
            have HES := hide hes
            clear hes hz hgd
            go_wp2
            go_round
            case rel => exact ⟨_, rfl, R.out⟩
            case measure => simp only [sizeOf', HES.out]; omega
          · have hzb : (((t[0]'hp).toNat : Int) == 48) = false := beq_eq_false_iff_ne.2 hz
            have HF := hide (end_dec HTD.out HTv.out (by rw [bytesOf_length]; omega) (.inr (by rw [hgd]; exact hz)))
            clear hz hgd
            go_wp2
            go_ret
            exact ⟨bytesOf t, by rw [minus_str, strOf_bytes]; rfl, HF.out, hb0⟩
        · have h1i : ¬ (1 : Int) < (t.size : Int) := by omega
          have HF := hide (end_dec HTD.out HTv.out (by rw [bytesOf_length]; omega) (.inl (by rw [bytesOf_length]; omega)))
          go_wp2
          go_ret
          exact ⟨bytesOf t, by rw [minus_str, strOf_bytes]; rfl, HF.out, hb0⟩
end Dm
end Go.Proofs.YtdiiankcjgoecaaDoor

namespace Go.Proofs.YtdiiankcjgoecaaDoor
namespace Lm
theorem low_parts (p : Int) {q : Int} (hq : q ≠ 0) : ∃ g a b : Int, 0 < g ∧ p = g * a ∧ q = g * b ∧ b ≠ 0 ∧ Int.gcd a b = 1 ∧ nm p q = Int.sign b * a ∧ dn p q = Int.sign b * b := by
  have hg := gcd_pos_right (p := p) hq
  obtain ⟨a, ha⟩ : ((Int.gcd p q : Nat) : Int) ∣ p := Int.gcd_dvd_left p q
  obtain ⟨b, hb⟩ : ((Int.gcd p q : Nat) : Int) ∣ q := Int.gcd_dvd_right p q
  have ea : p / ((Int.gcd p q : Nat) : Int) = a := by
    conv => lhs; lhs; rw [ha]
    exact Int.mul_ediv_cancel_left _ (by omega)
  have eb : q / ((Int.gcd p q : Nat) : Int) = b := by
    conv => lhs; lhs; rw [hb]
    exact Int.mul_ediv_cancel_left _ (by omega)
  have hs : Int.sign q = Int.sign b := by
    rw [hb, Int.sign_mul, Int.sign_eq_one_of_pos hg, Int.one_mul]
  have hc : Int.gcd a b = 1 := by
    have := Int.gcd_ediv_gcd_ediv_gcd (i := p) (j := q) (by omega)
    rwa [ea, eb] at this
  refine ⟨_, a, b, hg, ha, hb, ?_, hc, ?_, ?_⟩
  · rintro rfl
    rw [Int.mul_zero] at hb
    exact hq hb
  · unfold nm
    rw [ea, hs]
  · unfold dn
    rw [eb, hs]
theorem sign_self_pos {b : Int} (h : b ≠ 0) : 0 < Int.sign b * b := by
  rcases Int.lt_trichotomy b 0 with h1 | h1 | h1
  · rw [Int.sign_eq_neg_one_of_neg h1]; omega
  · exact absurd h1 h
  · rw [Int.sign_eq_one_of_pos h1]; omega
theorem dn_pos (p : Int) {q : Int} (hq : q ≠ 0) : 0 < dn p q := by
  obtain ⟨g, a, b, _, _, _, hb, _, _, e⟩ := low_parts p hq
  rw [e]
  exact sign_self_pos hb
theorem low_cross (p : Int) {q : Int} (hq : q ≠ 0) : nm p q * q = p * dn p q := by
  obtain ⟨g, a, b, _, hp, hq', _, _, e1, e2⟩ := low_parts p hq
  rw [e1, e2]
  grind
theorem low_cop (p : Int) {q : Int} (hq : q ≠ 0) : Int.gcd (nm p q) (dn p q) = 1 := by
  obtain ⟨g, a, b, _, _, _, hb, hc, e1, e2⟩ := low_parts p hq
  rw [e1, e2]
  rcases Int.lt_trichotomy b 0 with h1 | h1 | h1
  · rw [Int.sign_eq_neg_one_of_neg h1]; simpa using hc
  · exact absurd h1 hb
  · rw [Int.sign_eq_one_of_pos h1]; simpa using hc
theorem dvd_cop {n d k : Int} (hc : Int.gcd n d = 1) (h : d ∣ n * k) : d ∣ k := by
  have h1 : d.natAbs ∣ n.natAbs * k.natAbs := by rw [← Int.natAbs_mul]; exact Int.natAbs_dvd_natAbs.2 h
  have hc' : Nat.Coprime d.natAbs n.natAbs := by
    unfold Nat.Coprime
    rw [Nat.gcd_comm]
    exact hc
  exact Int.natAbs_dvd_natAbs.1 (hc'.dvd_of_dvd_mul_left h1)
theorem low_eq {p q p' q' : Int} (hq : q ≠ 0) (hq' : q' ≠ 0) (h : p * q' = p' * q) : nm p q = nm p' q' ∧ dn p q = dn p' q' := by
  have c1 := low_cross p hq
  have c2 := low_cross p' hq'
  have d1 := dn_pos p hq
  have d2 := dn_pos p' hq'
  have hx : nm p q * dn p' q' = nm p' q' * dn p q := by
    apply Int.eq_of_mul_eq_mul_right (Int.mul_ne_zero hq hq')
    grind
  have e1 : dn p q ∣ dn p' q' := dvd_cop (low_cop p hq) ⟨nm p' q', by rw [hx, Int.mul_comm]⟩
  have e2 : dn p' q' ∣ dn p q := dvd_cop (low_cop p' hq') ⟨nm p q, by rw [← hx, Int.mul_comm]⟩
  have e : dn p q = dn p' q' := Int.dvd_antisymm (by omega) (by omega) e1 e2
  refine ⟨?_, e⟩
  rw [e] at hx
  exact Int.eq_of_mul_eq_mul_right (by omega) hx
end Lm
end Go.Proofs.YtdiiankcjgoecaaDoor

namespace Go.Proofs.YtdiiankcjgoecaaDoor
namespace Lm
open Go Go.RowKit
def ov (x y : Int) : Int := sg (decide (x < 0) != decide (y < 0)) ((x.natAbs : Int) / (y.natAbs : Int))
theorem gcd_ne (x : Int) {y : Int} (h : y ≠ 0) : ((Int.gcd x y : Nat) : Int) ≠ 0 := by
  have := gcd_pos_right (p := x) h
  omega
theorem ov_exact {x g : Int} (hg : 0 < g) (hd : g ∣ x) : ov x g = x / g := by
  obtain ⟨k, rfl⟩ := hd
  have h1 : decide (g < 0) = false := decide_eq_false (by omega)
  have h2 : ((g.natAbs : Nat) : Int) = g := by omega
  rw [Int.mul_ediv_cancel_left _ (by omega)]
  unfold ov
  rw [h1, h2, Int.natAbs_mul]
  have h3 : ((g.natAbs * k.natAbs : Nat) : Int) = g * (k.natAbs : Int) := by
    rw [Int.natCast_mul, h2]
  rw [h3, Int.mul_ediv_cancel_left _ (by omega)]
  by_cases hk : k < 0
  · have : g * k < 0 := Int.mul_neg_of_pos_of_neg hg hk
    simp [sg, this]
    omega
  · have : ¬ g * k < 0 := by
      have := Int.mul_nonneg (show 0 ≤ g by omega) (show 0 ≤ k by omega)
      omega
    simp [sg, this]
    omega
theorem mk_pos {x y : Int} (hy : 0 < y) : ov x ((Int.gcd x y : Nat) : Int) = nm x y ∧ ov y ((Int.gcd x y : Nat) : Int) = dn x y := by
  have hg := gcd_pos_right (p := x) (show y ≠ 0 by omega)
  rw [ov_exact hg (Int.gcd_dvd_left x y), ov_exact hg (Int.gcd_dvd_right x y), nm, dn, Int.sign_eq_one_of_pos hy]
  simp
theorem mk_neg {x y : Int} (hy : y < 0) : ov (-x) ((Int.gcd (-x) (-y) : Nat) : Int) = nm x y ∧ ov (-y) ((Int.gcd (-x) (-y) : Nat) : Int) = dn x y := by
  have h := mk_pos (x := -x) (y := -y) (by omega)
  rw [h.1, h.2]
  exact low_eq (by omega) (by omega) (by grind)
def CopyL (xs : List Int) : Says := fun v w => ∃ ao n cap, v = .slice ao n cap ∧ Sl w (.slice ao n cap) xs
theorem CopyL.mono4 (xs : List Int) : Mono4 (CopyL xs) := fun _ _ _ hr ⟨ao, n, cap, e, h⟩ => ⟨ao, n, cap, e, h.rl hr⟩
section
variable {dst : Option Tmp} {ty : TypeId} {pos : String} {after : Array Edge} {guard : Option (Nat × Bool)} {a : Act} {w : World} {ats : Array TypeId} {i j : Nat}
theorem has_lcopy : Has Tryd.prog 48 := by unfold Has; kernel_rfl
theorem op_lcopy {ao : Option Addr} {n c : Nat} {xs : List Int} (h : a.eval (.tmp i) = .slice ao n c) (hs : Sl w (.slice ao n c) xs) (hl : xs.length ≤ 1000000) :
    Does Tryd.prog { dst, op := .call { callee := .value (.func 48), args := #[.tmp i], argTypes := ats }, type := ty, pos, after, guard } a.eval w fun v w' => Below w.heap.size w w' ∧ CopyL xs v w' := by
  refine does_call has_lcopy _ (by simp only [List.map_toArray, List.map_cons, List.map_nil, h]) ((copy_any w ao n c xs hs hl).mono ?_)
  rintro e w' ⟨v, rfl, O, hb⟩
  obtain ⟨ao', cap', hv, h1⟩ := O.sl
  exact ⟨_, rfl, hb, ao', _, cap', hv, hv ▸ O.sl⟩
theorem op_bWc {b : Bool} {xs : List Int} {z : Int} {L : Nat} (h1 : a.eval (.tmp i) = .bool b) (h2 : CopyL xs (a.eval (.tmp j)) w) (hz : sg b (val xs) = z) (hl : xs.length ≤ L) : Does Tryd.prog { dst, op := .build 24 #[(0, .tmp i), (1, .tmp j)], type := ty, pos, after, guard } a.eval w fun v' w' => Below w.heap.size w w' ∧ IsW z L v' w' := by
  obtain ⟨ao, n, cap, e, hs⟩ := h2
  exact (op_bW2 h1 e).mono (fun v w' ⟨hb, e⟩ => ⟨hb, isw_eq e ⟨hs.below hb, hz⟩ hl⟩)
end
set_option maxRecDepth 20000 in
set_option maxHeartbeats 2000000 in
theorem nover_z (w : World) (Bx : Nat) (nx : Bool) (ax : Option Addr) (cx : Nat) (xs : List Int) (zx : Int) (Gx : Dm.Wh w nx ax cx xs zx) (Lx : xs.length ≤ Bx) (By : Nat) (ny : Bool) (ay : Option Addr) (cy : Nat) (ys : List Int) (zy : Int) (Gy : Dm.Wh w ny ay cy ys zy) (Ly : ys.length ≤ By) (hL : Bx ≤ 300000) (hL2 : By ≤ 300000) (hy : zy ≠ 0) :
    Calls Tryd.prog 97 #[.agg #[.bool nx, .slice ax xs.length cx], .agg #[.bool ny, .slice ay ys.length cy]] w fun e w' => ∃ v, e = .returned v ∧ (OutN (ov zx zy) Bx) v w' ∧ Below w.heap.size w w' := by
  go_enter Tryd.func97, Tryd.ntmps97
  generalize hA : (Act.mk _ _) = aa
  have hn : aa.tmps.size = 21 := by rw [← hA]; rfl
  have hd : aa.defers = [] := by rw [← hA]
  have f0 : aa.eval (.tmp 0) = .agg #[.bool nx, .slice ax xs.length cx] := by rw [← hA]; rfl
  have f1 : aa.eval (.tmp 1) = .agg #[.bool ny, .slice ay ys.length cy] := by rw [← hA]; rfl
  clear hA
  have HB : Below w.heap.size w w := Below.refl _ _
  refine wp_seq ?_
  refine region4 [some 2, some 3, some 4] [(fun _ _ => True), (fun _ _ => True), (fun _ _ => True)] [⟨N2, some 0, 0, 2, .agg #[.bool nx, .slice ax xs.length cx], none, []⟩, ⟨N2, some 1, 0, 3, .agg #[.bool ny, .slice ay ys.length cy], none, []⟩, ⟨N2, some 2, 0, 4, .agg #[.bool false, .slice none 0 0], none, []⟩] [] (by kernel_rfl) hn rfl (by kernel_rfl) (by kernel_rfl) (by kernel_rfl) (by kernel_rfl) (by kernel_rfl) (by kernel_rfl) ⟨True.mono4, True.mono4, True.mono4, trivial⟩ (ok_cons N2ok (ok_cons N2ok (ok_cons N2ok ok_nil))) (IsOld.all (bx := [⟨N2, some 0, 0, 2, .agg #[.bool nx, .slice ax xs.length cx], none, []⟩, ⟨N2, some 1, 0, 3, .agg #[.bool ny, .slice ay ys.length cy], none, []⟩, ⟨N2, some 2, 0, 4, .agg #[.bool false, .slice none 0 0], none, []⟩]) ⟨someNe, someNe, someNe, trivial⟩) (DisOld.all (bx := [⟨N2, some 0, 0, 2, .agg #[.bool nx, .slice ax xs.length cx], none, []⟩, ⟨N2, some 1, 0, 3, .agg #[.bool ny, .slice ay ys.length cy], none, []⟩, ⟨N2, some 2, 0, 4, .agg #[.bool false, .slice none 0 0], none, []⟩]) ⟨someNe, someNe, someNe, trivial⟩) ?_ ?_
  · exact ⟨.alloc 0 _ rfl rfl (.inr ⟨_, rfl, n2_cs, fun a_ hR => (hR 0 rfl).trans f0⟩) rfl rfl rfl rfl rfl,
      .alloc 1 _ rfl rfl (.inr ⟨_, rfl, n2_cs, fun a_ hR => (hR 1 rfl).trans f1⟩) rfl rfl rfl rfl rfl,
      .alloc 2 _ rfl rfl (.inl ⟨rfl, rfl⟩) rfl rfl rfl rfl rfl,
      trivial⟩
  · intro a1 w1 gs1 hn1 hd1 hBt hr hR hP hX hU
    replace hn := hn1; replace hd := hd1.trans hd
    have ne2_4 : gs1 0 ≠ gs1 2 := hU 0 2 (by simp) (by simp) (by decide)
    have ne3_4 : gs1 1 ≠ gs1 2 := hU 1 2 (by simp) (by simp) (by decide)
    have b2 : BoxV N2 w1 (gs1 0) (.agg #[.bool nx, .slice ax xs.length cx]) := (hX 0 _ rfl).2.2.2
    have f2 := (hX 0 _ rfl).1
    have u2 : w.heap.size ≤ gs1 0 := Nat.le_trans HB.size ((hX 0 _ rfl).2.2.1 (by simp))
    have b3 : BoxV N2 w1 (gs1 1) (.agg #[.bool ny, .slice ay ys.length cy]) := (hX 1 _ rfl).2.2.2
    have f3 := (hX 1 _ rfl).1
    have u3 : w.heap.size ≤ gs1 1 := Nat.le_trans HB.size ((hX 1 _ rfl).2.2.1 (by simp))
    have b4 : BoxV N2 w1 (gs1 2) (.agg #[.bool false, .slice none 0 0]) := (hX 2 _ rfl).2.2.2
    have f4 := (hX 2 _ rfl).1
    have u4 : w.heap.size ≤ gs1 2 := Nat.le_trans HB.size ((hX 2 _ rfl).2.2.1 (by simp))
    replace Gx := Gx.rl hr
    replace Gy := Gy.rl hr
    replace HB := HB.trans (hBt.below HB.size (UpOld.all (bx := [⟨N2, some 0, 0, 2, .agg #[.bool nx, .slice ax xs.length cx], none, []⟩, ⟨N2, some 1, 0, 3, .agg #[.bool ny, .slice ay ys.length cy], none, []⟩, ⟨N2, some 2, 0, 4, .agg #[.bool false, .slice none 0 0], none, []⟩]) ⟨someNe, someNe, someNe, trivial⟩))
    clear hBt hr hR hP hX hU
    refine wp_seq ?_
    refine region4 [some 8, some 9, some 10, some 7, some 11, some 12, some 5, some 6, none, none] [Eqs (.agg #[.bool nx, .slice ax xs.length cx]), Eqs (.agg #[.bool ny, .slice ay ys.length cy]), Tup2 (OutN ((((zx).natAbs : Int) / ((zy).natAbs : Int))) (Bx)) (OutN ((((zx).natAbs : Int) % ((zy).natAbs : Int))) (By)), Tup2 (OutN ((((zx).natAbs : Int) / ((zy).natAbs : Int))) (Bx)) (OutN ((((zx).natAbs : Int) % ((zy).natAbs : Int))) (By)), OutN ((((zx).natAbs : Int) / ((zy).natAbs : Int))) (Bx), OutN ((((zx).natAbs : Int) % ((zy).natAbs : Int))) (By), (fun _ _ => True), (fun _ _ => True), (fun _ _ => True), (fun _ _ => True)] [⟨N2, some 6, 0, 5, .agg #[.bool false, .slice none 0 0], some (8, 11, 4), []⟩, ⟨N2, some 7, 0, 6, .agg #[.bool false, .slice none 0 0], some (9, 12, 5), []⟩] [] (by kernel_rfl) hn rfl (by kernel_rfl) (by kernel_rfl) (by kernel_rfl) (by kernel_rfl) (by kernel_rfl) (by kernel_rfl) ⟨Eqs.mono4 _, Eqs.mono4 _, Tup2.mono4 (OutN.mono4 _ _) (OutN.mono4 _ _), Tup2.mono4 (OutN.mono4 _ _) (OutN.mono4 _ _), OutN.mono4 _ _, OutN.mono4 _ _, True.mono4, True.mono4, True.mono4, True.mono4, trivial⟩ (ok_cons N2ok (ok_cons N2ok ok_nil)) (IsOld.all (bx := [⟨N2, some 6, 0, 5, .agg #[.bool false, .slice none 0 0], some (8, 11, 4), []⟩, ⟨N2, some 7, 0, 6, .agg #[.bool false, .slice none 0 0], some (9, 12, 5), []⟩]) ⟨someNe, someNe, trivial⟩) (DisOld.all (bx := [⟨N2, some 6, 0, 5, .agg #[.bool false, .slice none 0 0], some (8, 11, 4), []⟩, ⟨N2, some 7, 0, 6, .agg #[.bool false, .slice none 0 0], some (9, 12, 5), []⟩]) ⟨someNe, someNe, trivial⟩) ?_ ?_
    · exact ⟨.norm 8 rfl rfl rfl (fun a_ w_ hn_ hBt hr hR hD hO hS => op_loadv N2ok ((hR 2 rfl).trans f2) (b2.keep hBt ⟨someNe, someNe, trivial⟩)),
        .norm 9 rfl rfl rfl (fun a_ w_ hn_ hBt hr hR hD hO hS => op_loadv N2ok ((hR 3 rfl).trans f3) (b3.keep hBt ⟨someNe, someNe, trivial⟩)),
        .norm 10 rfl rfl rfl (fun a_ w_ hn_ hBt hr hR hD hO hS => op_ndivided (outn_eq (show a_.eval (.tmp 8) = .agg #[.bool nx, .slice ax xs.length cx] from hD 0 rfl) (Gx.rl hr) Lx) (outn_eq (show a_.eval (.tmp 9) = .agg #[.bool ny, .slice ay ys.length cy] from hD 1 rfl) (Gy.rl hr) Ly) (by omega) (by omega) hy),
        .norm 7 rfl rfl rfl (fun a_ w_ hn_ hBt hr hR hD hO hS => op_mvp (p := Tup2 (OutN ((((zx).natAbs : Int) / ((zy).natAbs : Int))) (Bx)) (OutN ((((zx).natAbs : Int) % ((zy).natAbs : Int))) (By))) (show Tup2 (OutN ((((zx).natAbs : Int) / ((zy).natAbs : Int))) (Bx)) (OutN ((((zx).natAbs : Int) % ((zy).natAbs : Int))) (By)) (a_.eval (.tmp 10)) w_ from hD 2 rfl)),
        .norm 11 rfl rfl rfl (fun a_ w_ hn_ hBt hr hR hD hO hS => op_ex20 (show Tup2 (OutN ((((zx).natAbs : Int) / ((zy).natAbs : Int))) (Bx)) (OutN ((((zx).natAbs : Int) % ((zy).natAbs : Int))) (By)) (a_.eval (.tmp 7)) w_ from hD 3 rfl)),
        .norm 12 rfl rfl rfl (fun a_ w_ hn_ hBt hr hR hD hO hS => op_ex21 (show Tup2 (OutN ((((zx).natAbs : Int) / ((zy).natAbs : Int))) (Bx)) (OutN ((((zx).natAbs : Int) % ((zy).natAbs : Int))) (By)) (a_.eval (.tmp 7)) w_ from hD 3 rfl)),
        .alloc 0 _ rfl rfl (.inl ⟨rfl, rfl⟩) rfl rfl rfl rfl rfl,
        .alloc 1 _ rfl rfl (.inl ⟨rfl, rfl⟩) rfl rfl rfl rfl rfl,
        .store 0 _ _ _ rfl rfl rfl rfl rfl rfl rfl (fun ia h => by cases h; rfl) rfl rfl rfl OutN.cs,
        .store 1 _ _ _ rfl rfl rfl rfl rfl rfl rfl (fun ia h => by cases h; rfl) rfl rfl rfl OutN.cs,
        trivial⟩
    · intro a2 w2 gs2 hn2 hd2 hBt hr hR hP hX hU
      replace hn := hn2; replace hd := hd2.trans hd
      have ne2_5 : (gs1 0) ≠ gs2 0 := by have h1 := b2.lt; have h2 := (hX 0 _ rfl).2.2.1 (by simp); omega
      have ne3_5 : (gs1 1) ≠ gs2 0 := by have h1 := b3.lt; have h2 := (hX 0 _ rfl).2.2.1 (by simp); omega
      have ne4_5 : (gs1 2) ≠ gs2 0 := by have h1 := b4.lt; have h2 := (hX 0 _ rfl).2.2.1 (by simp); omega
      replace b2 := b2.keep hBt ⟨someNe, someNe, trivial⟩
      replace b3 := b3.keep hBt ⟨someNe, someNe, trivial⟩
      replace b4 := b4.keep hBt ⟨someNe, someNe, trivial⟩
      obtain ⟨n_3, a_3, c_3, r_3, e11, G3, l3⟩ : OutN ((((zx).natAbs : Int) / ((zy).natAbs : Int))) (Bx) (a2.eval (.tmp 11)) w2 := hP 4 (by decide)
      have b5 : BoxV N2 w2 (gs2 0) (.agg #[.bool n_3, .slice a_3 r_3.length c_3]) := boxv_of (hX 0 _ rfl).2.2.2 e11
      have f5 := (hX 0 _ rfl).1
      have u5 : w.heap.size ≤ gs2 0 := Nat.le_trans HB.size ((hX 0 _ rfl).2.2.1 (by simp))
      replace f2 := (hR 2 rfl).trans f2
      replace f3 := (hR 3 rfl).trans f3
      replace f4 := (hR 4 rfl).trans f4
      replace Gx := Gx.rl hr
      replace Gy := Gy.rl hr
      replace HB := HB.trans (hBt.below HB.size (UpOld.all (bx := [⟨N2, some 6, 0, 5, .agg #[.bool false, .slice none 0 0], some (8, 11, 4), []⟩, ⟨N2, some 7, 0, 6, .agg #[.bool false, .slice none 0 0], some (9, 12, 5), []⟩]) ⟨someNe, someNe, trivial⟩))
      clear hBt hr hR hP hX hU
      refine wp_seq ?_
      refine wp_seq ?_
      refine region4 [some 13, some 14, some 15, some 16, some 17] [Eqs (.pointer (some ⟨gs1 0, 0, none⟩)), Eqs (.bool nx), Eqs (.pointer (some ⟨gs1 1, 0, none⟩)), Eqs (.bool ny), Eqs (.bool (nx != ny))] [] [] (by kernel_rfl) hn rfl (by kernel_rfl) (by kernel_rfl) (by kernel_rfl) (by kernel_rfl) (by kernel_rfl) (by kernel_rfl) ⟨Eqs.mono4 _, Eqs.mono4 _, Eqs.mono4 _, Eqs.mono4 _, Eqs.mono4 _, trivial⟩ ok_nil (IsOld.all (bx := []) trivial) (DisOld.all (bx := []) trivial) ?_ ?_
      · exact ⟨.norm 13 rfl rfl rfl (fun a_ w_ hn_ hBt hr hR hD hO hS => op_faN fa_nneg ((hR 2 rfl).trans f2)),
          .norm 14 rfl rfl rfl (fun a_ w_ hn_ hBt hr hR hD hO hS => op_ldnneg (show a_.eval (.tmp 13) = .pointer (some ⟨gs1 0, 0, none⟩) from hD 0 rfl) (b2.keep hBt trivial)),
          .norm 15 rfl rfl rfl (fun a_ w_ hn_ hBt hr hR hD hO hS => op_faN fa_nneg ((hR 3 rfl).trans f3)),
          .norm 16 rfl rfl rfl (fun a_ w_ hn_ hBt hr hR hD hO hS => op_ldnneg (show a_.eval (.tmp 15) = .pointer (some ⟨gs1 1, 0, none⟩) from hD 2 rfl) (b3.keep hBt trivial)),
          .norm 17 rfl rfl rfl (fun a_ w_ hn_ hBt hr hR hD hO hS => op_neqb (show a_.eval (.tmp 14) = .bool nx from hD 1 rfl) (show a_.eval (.tmp 16) = .bool ny from hD 3 rfl)),
          trivial⟩
      · intro a4 w4 gs4 hn4 hd4 hBt hr hR hP hX hU
        replace hn := hn4; replace hd := hd4.trans hd
        replace b4 := b4.keep hBt trivial
        replace b5 := b5.keep hBt trivial
        replace f4 := (hR 4 rfl).trans f4
        replace f5 := (hR 5 rfl).trans f5
        have e17 : a4.eval (.tmp 17) = .bool (nx != ny) := hP 4 (by decide)
        have f17 := e17
        replace Gx := Gx.rl hr
        replace Gy := Gy.rl hr
        replace G3 := G3.rl hr
        replace HB := HB.trans (hBt.below HB.size (UpOld.all (bx := []) trivial))
        clear hBt hr hR hP hX hU
        refine wp_cond_split f17 (fun hc17 => ?_) (fun hc17 => ?_)
        · skip
          refine region4 [some 18, some 19, none] [Eqs (.agg #[.bool n_3, .slice a_3 r_3.length c_3]), OutN ((-(((zx).natAbs : Int) / ((zy).natAbs : Int)))) (Bx), (fun _ _ => True)] [⟨N2, none, (gs2 0), 5, .agg #[.bool n_3, .slice a_3 r_3.length c_3], some (2, 19, 1), [0]⟩] [] (by kernel_rfl) hn rfl (by kernel_rfl) (by kernel_rfl) (by kernel_rfl) (by kernel_rfl) (by kernel_rfl) (by kernel_rfl) ⟨Eqs.mono4 _, OutN.mono4 _ _, True.mono4, trivial⟩ (ok_cons N2ok ok_nil) (IsOld.all (bx := [⟨N2, none, (gs2 0), 5, .agg #[.bool n_3, .slice a_3 r_3.length c_3], some (2, 19, 1), [0]⟩]) ⟨fun _ => ⟨f5, b5⟩, trivial⟩) (DisOld.all (bx := [⟨N2, none, (gs2 0), 5, .agg #[.bool n_3, .slice a_3 r_3.length c_3], some (2, 19, 1), [0]⟩]) ⟨fun _ => trivial, trivial⟩) ?_ ?_
          · exact ⟨.norm 18 rfl rfl rfl (fun a_ w_ hn_ hBt hr hR hD hO hS => op_loadv N2ok ((hR 5 rfl).trans f5) (hO 0 _ rfl rfl rfl)),
              .norm 19 rfl rfl rfl (fun a_ w_ hn_ hBt hr hR hD hO hS => op_nminus (outn_eq (show a_.eval (.tmp 18) = .agg #[.bool n_3, .slice a_3 r_3.length c_3] from hD 0 rfl) (G3.rl hr) l3) (by omega)),
              .store 0 _ _ _ rfl rfl rfl rfl rfl rfl rfl (fun ia h => by cases h) rfl rfl rfl OutN.cs,
              trivial⟩
          · intro a5 w5 gs5 hn5 hd5 hBt hr hR hP hX hU
            replace hn := hn5; replace hd := hd5.trans hd
            replace b4 := b4.keep hBt ⟨fun _ => ne4_5.symm, trivial⟩
            obtain ⟨n_6, a_6, c_6, r_6, e19, G6, l6⟩ : OutN ((-(((zx).natAbs : Int) / ((zy).natAbs : Int)))) (Bx) (a5.eval (.tmp 19)) w5 := hP 1 (by decide)
            have b5 : BoxV N2 w5 ((gs2 0)) (.agg #[.bool n_6, .slice a_6 r_6.length c_6]) := boxv_old ((hX 0 _ rfl).2.1 rfl) (hX 0 _ rfl).2.2.2 e19
            replace f5 : a5.eval (.tmp 5) = _ := (hR 5 rfl).trans f5
            replace f4 := (hR 4 rfl).trans f4
            replace Gx := Gx.rl hr
            replace Gy := Gy.rl hr
            replace G3 := G3.rl hr
            replace HB := HB.trans (hBt.below HB.size (UpOld.all (bx := [⟨N2, none, (gs2 0), 5, .agg #[.bool n_3, .slice a_3 r_3.length c_3], some (2, 19, 1), [0]⟩]) ⟨fun _ => u5, trivial⟩))
            clear hBt hr hR hP hX hU
            refine wp_seq ?_
            refine region4 [some 20, none] [Eqs (.agg #[.bool n_6, .slice a_6 r_6.length c_6]), (fun _ _ => True)] [⟨N2, none, (gs1 2), 4, .agg #[.bool false, .slice none 0 0], some (1, 20, 0), []⟩] [] (by kernel_rfl) hn rfl (by kernel_rfl) (by kernel_rfl) (by kernel_rfl) (by kernel_rfl) (by kernel_rfl) (by kernel_rfl) ⟨Eqs.mono4 _, True.mono4, trivial⟩ (ok_cons N2ok ok_nil) (IsOld.all (bx := [⟨N2, none, (gs1 2), 4, .agg #[.bool false, .slice none 0 0], some (1, 20, 0), []⟩]) ⟨fun _ => ⟨f4, b4⟩, trivial⟩) (DisOld.all (bx := [⟨N2, none, (gs1 2), 4, .agg #[.bool false, .slice none 0 0], some (1, 20, 0), []⟩]) ⟨fun _ => trivial, trivial⟩) ?_ ?_
            · exact ⟨.norm 20 rfl rfl rfl (fun a_ w_ hn_ hBt hr hR hD hO hS => op_loadv N2ok ((hR 5 rfl).trans f5) (b5.keep hBt ⟨fun _ => ne4_5, trivial⟩)),
                .store 0 _ _ _ rfl rfl rfl rfl rfl rfl rfl (fun ia h => by cases h) rfl rfl rfl (eqs_cs n2_cs),
                trivial⟩
            · intro a7 w7 gs7 hn7 hd7 hBt hr hR hP hX hU
              replace hn := hn7; replace hd := hd7.trans hd
              have e20 : a7.eval (.tmp 20) = .agg #[.bool n_6, .slice a_6 r_6.length c_6] := hP 0 (by decide)
              have b4 : BoxV N2 w7 ((gs1 2)) (.agg #[.bool n_6, .slice a_6 r_6.length c_6]) := boxv_old ((hX 0 _ rfl).2.1 rfl) (hX 0 _ rfl).2.2.2 e20
              replace f4 : a7.eval (.tmp 4) = _ := (hR 4 rfl).trans f4
              replace Gx := Gx.rl hr
              replace Gy := Gy.rl hr
              replace G3 := G3.rl hr
              replace G6 := G6.rl hr
              replace HB := HB.trans (hBt.below HB.size (UpOld.all (bx := [⟨N2, none, (gs1 2), 4, .agg #[.bool false, .slice none 0 0], some (1, 20, 0), []⟩]) ⟨fun _ => u4, trivial⟩))
              clear hBt hr hR hP hX hU
              refine wp_ret ?_
              repeat (first | refine then_ret ?_ | refine scope_ret ?_ | refine block_ret ?_)
              exact bodyPost_ret (v := .agg #[.bool n_6, .slice a_6 r_6.length c_6]) (res_c rfl f4 (lv_N2 b4)) hd ⟨_, rfl, OutN.to (outn_eq rfl G6 l6) (by rw [ov, ← Gx.2, ← Gy.2, hc17]; rfl) (by omega), HB⟩
        · skip
          refine wp_skip ?_
          refine wp_seq ?_
          refine region4 [some 20, none] [Eqs (.agg #[.bool n_3, .slice a_3 r_3.length c_3]), (fun _ _ => True)] [⟨N2, none, (gs1 2), 4, .agg #[.bool false, .slice none 0 0], some (1, 20, 0), []⟩] [] (by kernel_rfl) hn rfl (by kernel_rfl) (by kernel_rfl) (by kernel_rfl) (by kernel_rfl) (by kernel_rfl) (by kernel_rfl) ⟨Eqs.mono4 _, True.mono4, trivial⟩ (ok_cons N2ok ok_nil) (IsOld.all (bx := [⟨N2, none, (gs1 2), 4, .agg #[.bool false, .slice none 0 0], some (1, 20, 0), []⟩]) ⟨fun _ => ⟨f4, b4⟩, trivial⟩) (DisOld.all (bx := [⟨N2, none, (gs1 2), 4, .agg #[.bool false, .slice none 0 0], some (1, 20, 0), []⟩]) ⟨fun _ => trivial, trivial⟩) ?_ ?_
          · exact ⟨.norm 20 rfl rfl rfl (fun a_ w_ hn_ hBt hr hR hD hO hS => op_loadv N2ok ((hR 5 rfl).trans f5) (b5.keep hBt ⟨fun _ => ne4_5, trivial⟩)),
              .store 0 _ _ _ rfl rfl rfl rfl rfl rfl rfl (fun ia h => by cases h) rfl rfl rfl (eqs_cs n2_cs),
              trivial⟩
          · intro a8 w8 gs8 hn8 hd8 hBt hr hR hP hX hU
            replace hn := hn8; replace hd := hd8.trans hd
            have e20 : a8.eval (.tmp 20) = .agg #[.bool n_3, .slice a_3 r_3.length c_3] := hP 0 (by decide)
            have b4 : BoxV N2 w8 ((gs1 2)) (.agg #[.bool n_3, .slice a_3 r_3.length c_3]) := boxv_old ((hX 0 _ rfl).2.1 rfl) (hX 0 _ rfl).2.2.2 e20
            replace f4 : a8.eval (.tmp 4) = _ := (hR 4 rfl).trans f4
            replace Gx := Gx.rl hr
            replace Gy := Gy.rl hr
            replace G3 := G3.rl hr
            replace HB := HB.trans (hBt.below HB.size (UpOld.all (bx := [⟨N2, none, (gs1 2), 4, .agg #[.bool false, .slice none 0 0], some (1, 20, 0), []⟩]) ⟨fun _ => u4, trivial⟩))
            clear hBt hr hR hP hX hU
            refine wp_ret ?_
            repeat (first | refine then_ret ?_ | refine scope_ret ?_ | refine block_ret ?_)
            exact bodyPost_ret (v := .agg #[.bool n_3, .slice a_3 r_3.length c_3]) (res_c rfl f4 (lv_N2 b4)) hd ⟨_, rfl, OutN.to (outn_eq rfl G3 l3) (by rw [ov, ← Gx.2, ← Gy.2, hc17]; rfl) (by omega), HB⟩
theorem has_nover : Has Tryd.prog 97 := by unfold Has; kernel_rfl
theorem op_nover {dst : Option Tmp} {ty : TypeId} {pos : String} {after : Array Edge} {guard : Option (Nat × Bool)} {a : Act} {w : World} {ats : Array TypeId} {i j : Nat} {Bx : Nat} {zx : Int} (Hx : OutN zx Bx (a.eval (.tmp i)) w) {By : Nat} {zy : Int} (Hy : OutN zy By (a.eval (.tmp j)) w) (hL : Bx ≤ 300000) (hL2 : By ≤ 300000) (hy : zy ≠ 0) :
    Does Tryd.prog { dst, op := .call { callee := .value (.func 97), args := #[.tmp i, .tmp j], argTypes := ats }, type := ty, pos, after, guard } a.eval w fun v w' => Below w.heap.size w w' ∧ (OutN (ov zx zy) Bx) v w' := by
  obtain ⟨nx, ax, cx, xs, ex, Gx, Lx⟩ := Hx
  obtain ⟨ny, ay, cy, ys, ey, Gy, Ly⟩ := Hy
  refine does_call has_nover _ (by simp only [List.map_toArray, List.map_cons, List.map_nil, ex, ey]) ((nover_z w Bx _ _ _ _ _ Gx Lx By _ _ _ _ _ Gy Ly hL hL2 hy).mono ?_)
  rintro e w' ⟨v, rfl, h1, hb⟩
  exact ⟨_, rfl, hb, h1⟩
set_option maxRecDepth 20000 in
set_option maxHeartbeats 2000000 in
theorem qmake_z (w : World) (Bx : Nat) (nx : Bool) (ax : Option Addr) (cx : Nat) (xs : List Int) (zx : Int) (Gx : Dm.Wh w nx ax cx xs zx) (Lx : xs.length ≤ Bx) (By : Nat) (ny : Bool) (ay : Option Addr) (cy : Nat) (ys : List Int) (zy : Int) (Gy : Dm.Wh w ny ay cy ys zy) (Ly : ys.length ≤ By) (hL : Bx + By ≤ 300000) (hy : zy ≠ 0) :
    Calls Tryd.prog 63 #[.agg #[.bool nx, .slice ax xs.length cx], .agg #[.bool ny, .slice ay ys.length cy]] w fun e w' => ∃ v, e = .returned v ∧ (OutQ (nm zx zy) (dn zx zy) (Bx + By)) v w' ∧ Below w.heap.size w w' := by
  go_enter Tryd.func63, Tryd.ntmps63
  generalize hA : (Act.mk _ _) = aa
  have hn : aa.tmps.size = 22 := by rw [← hA]; rfl
  have hd : aa.defers = [] := by rw [← hA]
  have f0 : aa.eval (.tmp 0) = .agg #[.bool nx, .slice ax xs.length cx] := by rw [← hA]; rfl
  have f1 : aa.eval (.tmp 1) = .agg #[.bool ny, .slice ay ys.length cy] := by rw [← hA]; rfl
  clear hA
  have HB : Below w.heap.size w w := Below.refl _ _
  refine wp_seq ?_
  refine region4 [some 2, some 3, some 4] [(fun _ _ => True), (fun _ _ => True), (fun _ _ => True)] [⟨N2, some 0, 0, 2, .agg #[.bool nx, .slice ax xs.length cx], none, []⟩, ⟨N2, some 1, 0, 3, .agg #[.bool ny, .slice ay ys.length cy], none, []⟩, ⟨Q4, some 2, 0, 4, .agg #[.bool false, .slice none 0 0, .bool false, .slice none 0 0], none, []⟩] [] (by kernel_rfl) hn rfl (by kernel_rfl) (by kernel_rfl) (by kernel_rfl) (by kernel_rfl) (by kernel_rfl) (by kernel_rfl) ⟨True.mono4, True.mono4, True.mono4, trivial⟩ (ok_cons N2ok (ok_cons N2ok (ok_cons Q4ok ok_nil))) (IsOld.all (bx := [⟨N2, some 0, 0, 2, .agg #[.bool nx, .slice ax xs.length cx], none, []⟩, ⟨N2, some 1, 0, 3, .agg #[.bool ny, .slice ay ys.length cy], none, []⟩, ⟨Q4, some 2, 0, 4, .agg #[.bool false, .slice none 0 0, .bool false, .slice none 0 0], none, []⟩]) ⟨someNe, someNe, someNe, trivial⟩) (DisOld.all (bx := [⟨N2, some 0, 0, 2, .agg #[.bool nx, .slice ax xs.length cx], none, []⟩, ⟨N2, some 1, 0, 3, .agg #[.bool ny, .slice ay ys.length cy], none, []⟩, ⟨Q4, some 2, 0, 4, .agg #[.bool false, .slice none 0 0, .bool false, .slice none 0 0], none, []⟩]) ⟨someNe, someNe, someNe, trivial⟩) ?_ ?_
  · exact ⟨.alloc 0 _ rfl rfl (.inr ⟨_, rfl, n2_cs, fun a_ hR => (hR 0 rfl).trans f0⟩) rfl rfl rfl rfl rfl,
      .alloc 1 _ rfl rfl (.inr ⟨_, rfl, n2_cs, fun a_ hR => (hR 1 rfl).trans f1⟩) rfl rfl rfl rfl rfl,
      .alloc 2 _ rfl rfl (.inl ⟨rfl, rfl⟩) rfl rfl rfl rfl rfl,
      trivial⟩
  · intro a1 w1 gs1 hn1 hd1 hBt hr hR hP hX hU
    replace hn := hn1; replace hd := hd1.trans hd
    have ne2_3 : gs1 0 ≠ gs1 1 := hU 0 1 (by simp) (by simp) (by decide)
    have ne2_4 : gs1 0 ≠ gs1 2 := hU 0 2 (by simp) (by simp) (by decide)
    have ne3_4 : gs1 1 ≠ gs1 2 := hU 1 2 (by simp) (by simp) (by decide)
    have b2 : BoxV N2 w1 (gs1 0) (.agg #[.bool nx, .slice ax xs.length cx]) := (hX 0 _ rfl).2.2.2
    have f2 := (hX 0 _ rfl).1
    have u2 : w.heap.size ≤ gs1 0 := Nat.le_trans HB.size ((hX 0 _ rfl).2.2.1 (by simp))
    have b3 : BoxV N2 w1 (gs1 1) (.agg #[.bool ny, .slice ay ys.length cy]) := (hX 1 _ rfl).2.2.2
    have f3 := (hX 1 _ rfl).1
    have u3 : w.heap.size ≤ gs1 1 := Nat.le_trans HB.size ((hX 1 _ rfl).2.2.1 (by simp))
    have b4 : BoxV Q4 w1 (gs1 2) (.agg #[.bool false, .slice none 0 0, .bool false, .slice none 0 0]) := (hX 2 _ rfl).2.2.2
    have f4 := (hX 2 _ rfl).1
    have u4 : w.heap.size ≤ gs1 2 := Nat.le_trans HB.size ((hX 2 _ rfl).2.2.1 (by simp))
    replace Gx := Gx.rl hr
    replace Gy := Gy.rl hr
    replace HB := HB.trans (hBt.below HB.size (UpOld.all (bx := [⟨N2, some 0, 0, 2, .agg #[.bool nx, .slice ax xs.length cx], none, []⟩, ⟨N2, some 1, 0, 3, .agg #[.bool ny, .slice ay ys.length cy], none, []⟩, ⟨Q4, some 2, 0, 4, .agg #[.bool false, .slice none 0 0, .bool false, .slice none 0 0], none, []⟩]) ⟨someNe, someNe, someNe, trivial⟩))
    clear hBt hr hR hP hX hU
    refine wp_seq ?_
    refine wp_seq ?_
    refine region4 [some 6, some 7] [Eqs (.pointer (some ⟨gs1 1, 0, none⟩)), Eqs (.bool ny)] [] [] (by kernel_rfl) hn rfl (by kernel_rfl) (by kernel_rfl) (by kernel_rfl) (by kernel_rfl) (by kernel_rfl) (by kernel_rfl) ⟨Eqs.mono4 _, Eqs.mono4 _, trivial⟩ ok_nil (IsOld.all (bx := []) trivial) (DisOld.all (bx := []) trivial) ?_ ?_
    · exact ⟨.norm 6 rfl rfl rfl (fun a_ w_ hn_ hBt hr hR hD hO hS => op_faN fa_nneg ((hR 3 rfl).trans f3)),
        .norm 7 rfl rfl rfl (fun a_ w_ hn_ hBt hr hR hD hO hS => op_ldnneg (show a_.eval (.tmp 6) = .pointer (some ⟨gs1 1, 0, none⟩) from hD 0 rfl) (b3.keep hBt trivial)),
        trivial⟩
    · intro a2 w2 gs2 hn2 hd2 hBt hr hR hP hX hU
      replace hn := hn2; replace hd := hd2.trans hd
      replace b2 := b2.keep hBt trivial
      replace b3 := b3.keep hBt trivial
      replace b4 := b4.keep hBt trivial
      replace f2 := (hR 2 rfl).trans f2
      replace f3 := (hR 3 rfl).trans f3
      replace f4 := (hR 4 rfl).trans f4
      have e7 : a2.eval (.tmp 7) = .bool ny := hP 1 (by decide)
      have f7 := e7
      replace Gx := Gx.rl hr
      replace Gy := Gy.rl hr
      replace HB := HB.trans (hBt.below HB.size (UpOld.all (bx := []) trivial))
      clear hBt hr hR hP hX hU
      refine wp_cond_split f7 (fun hc7 => ?_) (fun hc7 => ?_)
      · skip
        have hc7' : zy < 0 := by have h := Gy.2; rw [hc7] at h; exact of_decide_eq_true h.symm
        refine wp_seq ?_
        refine region4 [some 8, some 9, none] [Eqs (.agg #[.bool nx, .slice ax xs.length cx]), OutN ((-zx)) (Bx), (fun _ _ => True)] [⟨N2, none, (gs1 0), 2, .agg #[.bool nx, .slice ax xs.length cx], some (2, 9, 1), [0]⟩] [] (by kernel_rfl) hn rfl (by kernel_rfl) (by kernel_rfl) (by kernel_rfl) (by kernel_rfl) (by kernel_rfl) (by kernel_rfl) ⟨Eqs.mono4 _, OutN.mono4 _ _, True.mono4, trivial⟩ (ok_cons N2ok ok_nil) (IsOld.all (bx := [⟨N2, none, (gs1 0), 2, .agg #[.bool nx, .slice ax xs.length cx], some (2, 9, 1), [0]⟩]) ⟨fun _ => ⟨f2, b2⟩, trivial⟩) (DisOld.all (bx := [⟨N2, none, (gs1 0), 2, .agg #[.bool nx, .slice ax xs.length cx], some (2, 9, 1), [0]⟩]) ⟨fun _ => trivial, trivial⟩) ?_ ?_
        · exact ⟨.norm 8 rfl rfl rfl (fun a_ w_ hn_ hBt hr hR hD hO hS => op_loadv N2ok ((hR 2 rfl).trans f2) (hO 0 _ rfl rfl rfl)),
            .norm 9 rfl rfl rfl (fun a_ w_ hn_ hBt hr hR hD hO hS => op_nminus (outn_eq (show a_.eval (.tmp 8) = .agg #[.bool nx, .slice ax xs.length cx] from hD 0 rfl) (Gx.rl hr) Lx) (by omega)),
            .store 0 _ _ _ rfl rfl rfl rfl rfl rfl rfl (fun ia h => by cases h) rfl rfl rfl OutN.cs,
            trivial⟩
        · intro a3 w3 gs3 hn3 hd3 hBt hr hR hP hX hU
          replace hn := hn3; replace hd := hd3.trans hd
          replace b3 := b3.keep hBt ⟨fun _ => ne2_3, trivial⟩
          replace b4 := b4.keep hBt ⟨fun _ => ne2_4, trivial⟩
          obtain ⟨n_4, a_4, c_4, r_4, e9, G4, l4⟩ : OutN ((-zx)) (Bx) (a3.eval (.tmp 9)) w3 := hP 1 (by decide)
          have b2 : BoxV N2 w3 ((gs1 0)) (.agg #[.bool n_4, .slice a_4 r_4.length c_4]) := boxv_old ((hX 0 _ rfl).2.1 rfl) (hX 0 _ rfl).2.2.2 e9
          replace f2 : a3.eval (.tmp 2) = _ := (hR 2 rfl).trans f2
          replace f3 := (hR 3 rfl).trans f3
          replace f4 := (hR 4 rfl).trans f4
          replace Gx := Gx.rl hr
          replace Gy := Gy.rl hr
          replace HB := HB.trans (hBt.below HB.size (UpOld.all (bx := [⟨N2, none, (gs1 0), 2, .agg #[.bool nx, .slice ax xs.length cx], some (2, 9, 1), [0]⟩]) ⟨fun _ => u2, trivial⟩))
          clear hBt hr hR hP hX hU
          refine region4 [some 10, some 11, none] [Eqs (.agg #[.bool ny, .slice ay ys.length cy]), OutN ((-zy)) (By), (fun _ _ => True)] [⟨N2, none, (gs1 1), 3, .agg #[.bool ny, .slice ay ys.length cy], some (2, 11, 1), [0]⟩] [] (by kernel_rfl) hn rfl (by kernel_rfl) (by kernel_rfl) (by kernel_rfl) (by kernel_rfl) (by kernel_rfl) (by kernel_rfl) ⟨Eqs.mono4 _, OutN.mono4 _ _, True.mono4, trivial⟩ (ok_cons N2ok ok_nil) (IsOld.all (bx := [⟨N2, none, (gs1 1), 3, .agg #[.bool ny, .slice ay ys.length cy], some (2, 11, 1), [0]⟩]) ⟨fun _ => ⟨f3, b3⟩, trivial⟩) (DisOld.all (bx := [⟨N2, none, (gs1 1), 3, .agg #[.bool ny, .slice ay ys.length cy], some (2, 11, 1), [0]⟩]) ⟨fun _ => trivial, trivial⟩) ?_ ?_
          · exact ⟨.norm 10 rfl rfl rfl (fun a_ w_ hn_ hBt hr hR hD hO hS => op_loadv N2ok ((hR 3 rfl).trans f3) (hO 0 _ rfl rfl rfl)),
              .norm 11 rfl rfl rfl (fun a_ w_ hn_ hBt hr hR hD hO hS => op_nminus (outn_eq (show a_.eval (.tmp 10) = .agg #[.bool ny, .slice ay ys.length cy] from hD 0 rfl) (Gy.rl hr) Ly) (by omega)),
              .store 0 _ _ _ rfl rfl rfl rfl rfl rfl rfl (fun ia h => by cases h) rfl rfl rfl OutN.cs,
              trivial⟩
          · intro a5 w5 gs5 hn5 hd5 hBt hr hR hP hX hU
            replace hn := hn5; replace hd := hd5.trans hd
            replace b2 := b2.keep hBt ⟨fun _ => ne2_3.symm, trivial⟩
            replace b4 := b4.keep hBt ⟨fun _ => ne3_4, trivial⟩
            obtain ⟨n_6, a_6, c_6, r_6, e11, G6, l6⟩ : OutN ((-zy)) (By) (a5.eval (.tmp 11)) w5 := hP 1 (by decide)
            have b3 : BoxV N2 w5 ((gs1 1)) (.agg #[.bool n_6, .slice a_6 r_6.length c_6]) := boxv_old ((hX 0 _ rfl).2.1 rfl) (hX 0 _ rfl).2.2.2 e11
            replace f3 : a5.eval (.tmp 3) = _ := (hR 3 rfl).trans f3
            replace f2 := (hR 2 rfl).trans f2
            replace f4 := (hR 4 rfl).trans f4
            replace Gx := Gx.rl hr
            replace Gy := Gy.rl hr
            replace G4 := G4.rl hr
            replace HB := HB.trans (hBt.below HB.size (UpOld.all (bx := [⟨N2, none, (gs1 1), 3, .agg #[.bool ny, .slice ay ys.length cy], some (2, 11, 1), [0]⟩]) ⟨fun _ => u3, trivial⟩))
            clear hBt hr hR hP hX hU
            refine wp_seq ?_
            refine region4 [some 12, some 13, some 14, some 5, none] [Eqs (.agg #[.bool n_4, .slice a_4 r_4.length c_4]), Eqs (.agg #[.bool n_6, .slice a_6 r_6.length c_6]), OutN (((Int.gcd (-zx) (-zy) : Nat) : Int)) ((Bx) + (By)), (fun _ _ => True), (fun _ _ => True)] [⟨N2, some 3, 0, 5, .agg #[.bool false, .slice none 0 0], some (4, 14, 2), []⟩] [] (by kernel_rfl) hn rfl (by kernel_rfl) (by kernel_rfl) (by kernel_rfl) (by kernel_rfl) (by kernel_rfl) (by kernel_rfl) ⟨Eqs.mono4 _, Eqs.mono4 _, OutN.mono4 _ _, True.mono4, True.mono4, trivial⟩ (ok_cons N2ok ok_nil) (IsOld.all (bx := [⟨N2, some 3, 0, 5, .agg #[.bool false, .slice none 0 0], some (4, 14, 2), []⟩]) ⟨someNe, trivial⟩) (DisOld.all (bx := [⟨N2, some 3, 0, 5, .agg #[.bool false, .slice none 0 0], some (4, 14, 2), []⟩]) ⟨someNe, trivial⟩) ?_ ?_
            · exact ⟨.norm 12 rfl rfl rfl (fun a_ w_ hn_ hBt hr hR hD hO hS => op_loadv N2ok ((hR 2 rfl).trans f2) (b2.keep hBt ⟨someNe, trivial⟩)),
                .norm 13 rfl rfl rfl (fun a_ w_ hn_ hBt hr hR hD hO hS => op_loadv N2ok ((hR 3 rfl).trans f3) (b3.keep hBt ⟨someNe, trivial⟩)),
                .norm 14 rfl rfl rfl (fun a_ w_ hn_ hBt hr hR hD hO hS => op_ngcd (L1 := Bx) (L2 := By) (outn_eq (show a_.eval (.tmp 12) = .agg #[.bool n_4, .slice a_4 r_4.length c_4] from hD 0 rfl) (G4.rl hr) l4) (outn_eq (show a_.eval (.tmp 13) = .agg #[.bool n_6, .slice a_6 r_6.length c_6] from hD 1 rfl) (G6.rl hr) l6) (by omega) (by omega)),
                .alloc 0 _ rfl rfl (.inl ⟨rfl, rfl⟩) rfl rfl rfl rfl rfl,
                .store 0 _ _ _ rfl rfl rfl rfl rfl rfl rfl (fun ia h => by cases h; rfl) rfl rfl rfl OutN.cs,
                trivial⟩
            · intro a7 w7 gs7 hn7 hd7 hBt hr hR hP hX hU
              replace hn := hn7; replace hd := hd7.trans hd
              have ne4_5 : (gs1 2) ≠ gs7 0 := by have h1 := b4.lt; have h2 := (hX 0 _ rfl).2.2.1 (by simp); omega
              replace b2 := b2.keep hBt ⟨someNe, trivial⟩
              replace b3 := b3.keep hBt ⟨someNe, trivial⟩
              replace b4 := b4.keep hBt ⟨someNe, trivial⟩
              obtain ⟨n_8, a_8, c_8, r_8, e14, G8, l8⟩ : OutN (((Int.gcd (-zx) (-zy) : Nat) : Int)) ((Bx) + (By)) (a7.eval (.tmp 14)) w7 := hP 2 (by decide)
              have b5 : BoxV N2 w7 (gs7 0) (.agg #[.bool n_8, .slice a_8 r_8.length c_8]) := boxv_of (hX 0 _ rfl).2.2.2 e14
              have f5 := (hX 0 _ rfl).1
              have u5 : w.heap.size ≤ gs7 0 := Nat.le_trans HB.size ((hX 0 _ rfl).2.2.1 (by simp))
              replace f2 := (hR 2 rfl).trans f2
              replace f3 := (hR 3 rfl).trans f3
              replace f4 := (hR 4 rfl).trans f4
              replace Gx := Gx.rl hr
              replace Gy := Gy.rl hr
              replace G4 := G4.rl hr
              replace G6 := G6.rl hr
              replace HB := HB.trans (hBt.below HB.size (UpOld.all (bx := [⟨N2, some 3, 0, 5, .agg #[.bool false, .slice none 0 0], some (4, 14, 2), []⟩]) ⟨someNe, trivial⟩))
              clear hBt hr hR hP hX hU
              refine wp_seq ?_
              refine region4 [some 15, some 16, some 17, some 18, some 19, some 20, some 21, none] [Eqs (.agg #[.bool n_4, .slice a_4 r_4.length c_4]), Eqs (.agg #[.bool n_8, .slice a_8 r_8.length c_8]), OutN ((ov (-zx) ((Int.gcd (-zx) (-zy) : Nat) : Int))) (Bx), Eqs (.agg #[.bool n_6, .slice a_6 r_6.length c_6]), Eqs (.agg #[.bool n_8, .slice a_8 r_8.length c_8]), OutN ((ov (-zy) ((Int.gcd (-zx) (-zy) : Nat) : Int))) (By), OutQ ((ov (-zx) ((Int.gcd (-zx) (-zy) : Nat) : Int))) ((ov (-zy) ((Int.gcd (-zx) (-zy) : Nat) : Int))) ((Bx) + (By)), (fun _ _ => True)] [⟨Q4, none, (gs1 2), 4, .agg #[.bool false, .slice none 0 0, .bool false, .slice none 0 0], some (7, 21, 6), []⟩] [] (by kernel_rfl) hn rfl (by kernel_rfl) (by kernel_rfl) (by kernel_rfl) (by kernel_rfl) (by kernel_rfl) (by kernel_rfl) ⟨Eqs.mono4 _, Eqs.mono4 _, OutN.mono4 _ _, Eqs.mono4 _, Eqs.mono4 _, OutN.mono4 _ _, OutQ.mono4 _ _ _, True.mono4, trivial⟩ (ok_cons Q4ok ok_nil) (IsOld.all (bx := [⟨Q4, none, (gs1 2), 4, .agg #[.bool false, .slice none 0 0, .bool false, .slice none 0 0], some (7, 21, 6), []⟩]) ⟨fun _ => ⟨f4, b4⟩, trivial⟩) (DisOld.all (bx := [⟨Q4, none, (gs1 2), 4, .agg #[.bool false, .slice none 0 0, .bool false, .slice none 0 0], some (7, 21, 6), []⟩]) ⟨fun _ => trivial, trivial⟩) ?_ ?_
              · exact ⟨.norm 15 rfl rfl rfl (fun a_ w_ hn_ hBt hr hR hD hO hS => op_loadv N2ok ((hR 2 rfl).trans f2) (b2.keep hBt ⟨fun _ => ne2_4.symm, trivial⟩)),
                  .norm 16 rfl rfl rfl (fun a_ w_ hn_ hBt hr hR hD hO hS => op_loadv N2ok ((hR 5 rfl).trans f5) (b5.keep hBt ⟨fun _ => ne4_5, trivial⟩)),
                  .norm 17 rfl rfl rfl (fun a_ w_ hn_ hBt hr hR hD hO hS => op_nover (outn_eq (show a_.eval (.tmp 15) = .agg #[.bool n_4, .slice a_4 r_4.length c_4] from hD 0 rfl) (G4.rl hr) l4) (outn_eq (show a_.eval (.tmp 16) = .agg #[.bool n_8, .slice a_8 r_8.length c_8] from hD 1 rfl) (G8.rl hr) l8) (by omega) (by omega) (gcd_ne _ (by omega))),
                  .norm 18 rfl rfl rfl (fun a_ w_ hn_ hBt hr hR hD hO hS => op_loadv N2ok ((hR 3 rfl).trans f3) (b3.keep hBt ⟨fun _ => ne3_4.symm, trivial⟩)),
                  .norm 19 rfl rfl rfl (fun a_ w_ hn_ hBt hr hR hD hO hS => op_loadv N2ok ((hR 5 rfl).trans f5) (b5.keep hBt ⟨fun _ => ne4_5, trivial⟩)),
                  .norm 20 rfl rfl rfl (fun a_ w_ hn_ hBt hr hR hD hO hS => op_nover (outn_eq (show a_.eval (.tmp 18) = .agg #[.bool n_6, .slice a_6 r_6.length c_6] from hD 3 rfl) (G6.rl hr) l6) (outn_eq (show a_.eval (.tmp 19) = .agg #[.bool n_8, .slice a_8 r_8.length c_8] from hD 4 rfl) (G8.rl hr) l8) (by omega) (by omega) (gcd_ne _ (by omega))),
                  .norm 21 rfl rfl rfl (fun a_ w_ hn_ hBt hr hR hD hO hS => op_bQ (L := (Bx) + (By)) ((show OutN ((ov (-zx) ((Int.gcd (-zx) (-zy) : Nat) : Int))) (Bx) (a_.eval (.tmp 17)) w_ from hD 2 rfl).to rfl (by omega)) ((show OutN ((ov (-zy) ((Int.gcd (-zx) (-zy) : Nat) : Int))) (By) (a_.eval (.tmp 20)) w_ from hD 5 rfl).to rfl (by omega))),
                  .store 0 _ _ _ rfl rfl rfl rfl rfl rfl rfl (fun ia h => by cases h) rfl rfl rfl OutQ.cs,
                  trivial⟩
              · intro a9 w9 gs9 hn9 hd9 hBt hr hR hP hX hU
                replace hn := hn9; replace hd := hd9.trans hd
                obtain ⟨n_10, a_10, c_10, r_10, o_10, b_10, d_10, s_10, e21, G10, K10, l10, k10⟩ : OutQ ((ov (-zx) ((Int.gcd (-zx) (-zy) : Nat) : Int))) ((ov (-zy) ((Int.gcd (-zx) (-zy) : Nat) : Int))) ((Bx) + (By)) (a9.eval (.tmp 21)) w9 := hP 6 (by decide)
                have b4 : BoxV Q4 w9 ((gs1 2)) (.agg #[.bool n_10, .slice a_10 r_10.length c_10, .bool o_10, .slice b_10 s_10.length d_10]) := boxv_old ((hX 0 _ rfl).2.1 rfl) (hX 0 _ rfl).2.2.2 e21
                replace f4 : a9.eval (.tmp 4) = _ := (hR 4 rfl).trans f4
                replace Gx := Gx.rl hr
                replace Gy := Gy.rl hr
                replace G4 := G4.rl hr
                replace G6 := G6.rl hr
                replace G8 := G8.rl hr
                replace HB := HB.trans (hBt.below HB.size (UpOld.all (bx := [⟨Q4, none, (gs1 2), 4, .agg #[.bool false, .slice none 0 0, .bool false, .slice none 0 0], some (7, 21, 6), []⟩]) ⟨fun _ => u4, trivial⟩))
                clear hBt hr hR hP hX hU
                refine wp_ret ?_
                repeat (first | refine then_ret ?_ | refine scope_ret ?_ | refine block_ret ?_)
                exact bodyPost_ret (v := .agg #[.bool n_10, .slice a_10 r_10.length c_10, .bool o_10, .slice b_10 s_10.length d_10]) (res_c rfl f4 (lv_Q4 b4)) hd ⟨_, rfl, OutQ.to (outq_eq rfl G10 K10 l10 k10) (mk_neg hc7').1 (mk_neg hc7').2 (by omega), HB⟩
      · skip
        have hc7' : 0 < zy := by have h := Gy.2; rw [hc7] at h; have h2 := of_decide_eq_false h.symm; omega
        refine wp_skip ?_
        refine wp_seq ?_
        refine region4 [some 12, some 13, some 14, some 5, none] [Eqs (.agg #[.bool nx, .slice ax xs.length cx]), Eqs (.agg #[.bool ny, .slice ay ys.length cy]), OutN (((Int.gcd zx zy : Nat) : Int)) ((Bx) + (By)), (fun _ _ => True), (fun _ _ => True)] [⟨N2, some 3, 0, 5, .agg #[.bool false, .slice none 0 0], some (4, 14, 2), []⟩] [] (by kernel_rfl) hn rfl (by kernel_rfl) (by kernel_rfl) (by kernel_rfl) (by kernel_rfl) (by kernel_rfl) (by kernel_rfl) ⟨Eqs.mono4 _, Eqs.mono4 _, OutN.mono4 _ _, True.mono4, True.mono4, trivial⟩ (ok_cons N2ok ok_nil) (IsOld.all (bx := [⟨N2, some 3, 0, 5, .agg #[.bool false, .slice none 0 0], some (4, 14, 2), []⟩]) ⟨someNe, trivial⟩) (DisOld.all (bx := [⟨N2, some 3, 0, 5, .agg #[.bool false, .slice none 0 0], some (4, 14, 2), []⟩]) ⟨someNe, trivial⟩) ?_ ?_
        · exact ⟨.norm 12 rfl rfl rfl (fun a_ w_ hn_ hBt hr hR hD hO hS => op_loadv N2ok ((hR 2 rfl).trans f2) (b2.keep hBt ⟨someNe, trivial⟩)),
            .norm 13 rfl rfl rfl (fun a_ w_ hn_ hBt hr hR hD hO hS => op_loadv N2ok ((hR 3 rfl).trans f3) (b3.keep hBt ⟨someNe, trivial⟩)),
            .norm 14 rfl rfl rfl (fun a_ w_ hn_ hBt hr hR hD hO hS => op_ngcd (L1 := Bx) (L2 := By) (outn_eq (show a_.eval (.tmp 12) = .agg #[.bool nx, .slice ax xs.length cx] from hD 0 rfl) (Gx.rl hr) Lx) (outn_eq (show a_.eval (.tmp 13) = .agg #[.bool ny, .slice ay ys.length cy] from hD 1 rfl) (Gy.rl hr) Ly) (by omega) (by omega)),
            .alloc 0 _ rfl rfl (.inl ⟨rfl, rfl⟩) rfl rfl rfl rfl rfl,
            .store 0 _ _ _ rfl rfl rfl rfl rfl rfl rfl (fun ia h => by cases h; rfl) rfl rfl rfl OutN.cs,
            trivial⟩
        · intro a11 w11 gs11 hn11 hd11 hBt hr hR hP hX hU
          replace hn := hn11; replace hd := hd11.trans hd
          have ne4_5 : (gs1 2) ≠ gs11 0 := by have h1 := b4.lt; have h2 := (hX 0 _ rfl).2.2.1 (by simp); omega
          replace b2 := b2.keep hBt ⟨someNe, trivial⟩
          replace b3 := b3.keep hBt ⟨someNe, trivial⟩
          replace b4 := b4.keep hBt ⟨someNe, trivial⟩
          obtain ⟨n_12, a_12, c_12, r_12, e14, G12, l12⟩ : OutN (((Int.gcd zx zy : Nat) : Int)) ((Bx) + (By)) (a11.eval (.tmp 14)) w11 := hP 2 (by decide)
          have b5 : BoxV N2 w11 (gs11 0) (.agg #[.bool n_12, .slice a_12 r_12.length c_12]) := boxv_of (hX 0 _ rfl).2.2.2 e14
          have f5 := (hX 0 _ rfl).1
          have u5 : w.heap.size ≤ gs11 0 := Nat.le_trans HB.size ((hX 0 _ rfl).2.2.1 (by simp))
          replace f2 := (hR 2 rfl).trans f2
          replace f3 := (hR 3 rfl).trans f3
          replace f4 := (hR 4 rfl).trans f4
          replace Gx := Gx.rl hr
          replace Gy := Gy.rl hr
          replace HB := HB.trans (hBt.below HB.size (UpOld.all (bx := [⟨N2, some 3, 0, 5, .agg #[.bool false, .slice none 0 0], some (4, 14, 2), []⟩]) ⟨someNe, trivial⟩))
          clear hBt hr hR hP hX hU
          refine wp_seq ?_
          refine region4 [some 15, some 16, some 17, some 18, some 19, some 20, some 21, none] [Eqs (.agg #[.bool nx, .slice ax xs.length cx]), Eqs (.agg #[.bool n_12, .slice a_12 r_12.length c_12]), OutN ((ov zx ((Int.gcd zx zy : Nat) : Int))) (Bx), Eqs (.agg #[.bool ny, .slice ay ys.length cy]), Eqs (.agg #[.bool n_12, .slice a_12 r_12.length c_12]), OutN ((ov zy ((Int.gcd zx zy : Nat) : Int))) (By), OutQ ((ov zx ((Int.gcd zx zy : Nat) : Int))) ((ov zy ((Int.gcd zx zy : Nat) : Int))) ((Bx) + (By)), (fun _ _ => True)] [⟨Q4, none, (gs1 2), 4, .agg #[.bool false, .slice none 0 0, .bool false, .slice none 0 0], some (7, 21, 6), []⟩] [] (by kernel_rfl) hn rfl (by kernel_rfl) (by kernel_rfl) (by kernel_rfl) (by kernel_rfl) (by kernel_rfl) (by kernel_rfl) ⟨Eqs.mono4 _, Eqs.mono4 _, OutN.mono4 _ _, Eqs.mono4 _, Eqs.mono4 _, OutN.mono4 _ _, OutQ.mono4 _ _ _, True.mono4, trivial⟩ (ok_cons Q4ok ok_nil) (IsOld.all (bx := [⟨Q4, none, (gs1 2), 4, .agg #[.bool false, .slice none 0 0, .bool false, .slice none 0 0], some (7, 21, 6), []⟩]) ⟨fun _ => ⟨f4, b4⟩, trivial⟩) (DisOld.all (bx := [⟨Q4, none, (gs1 2), 4, .agg #[.bool false, .slice none 0 0, .bool false, .slice none 0 0], some (7, 21, 6), []⟩]) ⟨fun _ => trivial, trivial⟩) ?_ ?_
          · exact ⟨.norm 15 rfl rfl rfl (fun a_ w_ hn_ hBt hr hR hD hO hS => op_loadv N2ok ((hR 2 rfl).trans f2) (b2.keep hBt ⟨fun _ => ne2_4.symm, trivial⟩)),
              .norm 16 rfl rfl rfl (fun a_ w_ hn_ hBt hr hR hD hO hS => op_loadv N2ok ((hR 5 rfl).trans f5) (b5.keep hBt ⟨fun _ => ne4_5, trivial⟩)),
              .norm 17 rfl rfl rfl (fun a_ w_ hn_ hBt hr hR hD hO hS => op_nover (outn_eq (show a_.eval (.tmp 15) = .agg #[.bool nx, .slice ax xs.length cx] from hD 0 rfl) (Gx.rl hr) Lx) (outn_eq (show a_.eval (.tmp 16) = .agg #[.bool n_12, .slice a_12 r_12.length c_12] from hD 1 rfl) (G12.rl hr) l12) (by omega) (by omega) (gcd_ne _ (by omega))),
              .norm 18 rfl rfl rfl (fun a_ w_ hn_ hBt hr hR hD hO hS => op_loadv N2ok ((hR 3 rfl).trans f3) (b3.keep hBt ⟨fun _ => ne3_4.symm, trivial⟩)),
              .norm 19 rfl rfl rfl (fun a_ w_ hn_ hBt hr hR hD hO hS => op_loadv N2ok ((hR 5 rfl).trans f5) (b5.keep hBt ⟨fun _ => ne4_5, trivial⟩)),
              .norm 20 rfl rfl rfl (fun a_ w_ hn_ hBt hr hR hD hO hS => op_nover (outn_eq (show a_.eval (.tmp 18) = .agg #[.bool ny, .slice ay ys.length cy] from hD 3 rfl) (Gy.rl hr) Ly) (outn_eq (show a_.eval (.tmp 19) = .agg #[.bool n_12, .slice a_12 r_12.length c_12] from hD 4 rfl) (G12.rl hr) l12) (by omega) (by omega) (gcd_ne _ (by omega))),
              .norm 21 rfl rfl rfl (fun a_ w_ hn_ hBt hr hR hD hO hS => op_bQ (L := (Bx) + (By)) ((show OutN ((ov zx ((Int.gcd zx zy : Nat) : Int))) (Bx) (a_.eval (.tmp 17)) w_ from hD 2 rfl).to rfl (by omega)) ((show OutN ((ov zy ((Int.gcd zx zy : Nat) : Int))) (By) (a_.eval (.tmp 20)) w_ from hD 5 rfl).to rfl (by omega))),
              .store 0 _ _ _ rfl rfl rfl rfl rfl rfl rfl (fun ia h => by cases h) rfl rfl rfl OutQ.cs,
              trivial⟩
          · intro a13 w13 gs13 hn13 hd13 hBt hr hR hP hX hU
            replace hn := hn13; replace hd := hd13.trans hd
            obtain ⟨n_14, a_14, c_14, r_14, o_14, b_14, d_14, s_14, e21, G14, K14, l14, k14⟩ : OutQ ((ov zx ((Int.gcd zx zy : Nat) : Int))) ((ov zy ((Int.gcd zx zy : Nat) : Int))) ((Bx) + (By)) (a13.eval (.tmp 21)) w13 := hP 6 (by decide)
            have b4 : BoxV Q4 w13 ((gs1 2)) (.agg #[.bool n_14, .slice a_14 r_14.length c_14, .bool o_14, .slice b_14 s_14.length d_14]) := boxv_old ((hX 0 _ rfl).2.1 rfl) (hX 0 _ rfl).2.2.2 e21
            replace f4 : a13.eval (.tmp 4) = _ := (hR 4 rfl).trans f4
            replace Gx := Gx.rl hr
            replace Gy := Gy.rl hr
            replace G12 := G12.rl hr
            replace HB := HB.trans (hBt.below HB.size (UpOld.all (bx := [⟨Q4, none, (gs1 2), 4, .agg #[.bool false, .slice none 0 0, .bool false, .slice none 0 0], some (7, 21, 6), []⟩]) ⟨fun _ => u4, trivial⟩))
            clear hBt hr hR hP hX hU
            refine wp_ret ?_
            repeat (first | refine then_ret ?_ | refine scope_ret ?_ | refine block_ret ?_)
            exact bodyPost_ret (v := .agg #[.bool n_14, .slice a_14 r_14.length c_14, .bool o_14, .slice b_14 s_14.length d_14]) (res_c rfl f4 (lv_Q4 b4)) hd ⟨_, rfl, OutQ.to (outq_eq rfl G14 K14 l14 k14) (mk_pos hc7').1 (mk_pos hc7').2 (by omega), HB⟩
theorem has_qmake : Has Tryd.prog 63 := by unfold Has; kernel_rfl
theorem op_qmake {dst : Option Tmp} {ty : TypeId} {pos : String} {after : Array Edge} {guard : Option (Nat × Bool)} {a : Act} {w : World} {ats : Array TypeId} {i j : Nat} {Bx : Nat} {zx : Int} (Hx : OutN zx Bx (a.eval (.tmp i)) w) {By : Nat} {zy : Int} (Hy : OutN zy By (a.eval (.tmp j)) w) (hL : Bx + By ≤ 300000) (hy : zy ≠ 0) :
    Does Tryd.prog { dst, op := .call { callee := .value (.func 63), args := #[.tmp i, .tmp j], argTypes := ats }, type := ty, pos, after, guard } a.eval w fun v w' => Below w.heap.size w w' ∧ (OutQ (nm zx zy) (dn zx zy) (Bx + By)) v w' := by
  obtain ⟨nx, ax, cx, xs, ex, Gx, Lx⟩ := Hx
  obtain ⟨ny, ay, cy, ys, ey, Gy, Ly⟩ := Hy
  refine does_call has_qmake _ (by simp only [List.map_toArray, List.map_cons, List.map_nil, ex, ey]) ((qmake_z w Bx _ _ _ _ _ Gx Lx By _ _ _ _ _ Gy Ly hL hy).mono ?_)
  rintro e w' ⟨v, rfl, h1, hb⟩
  exact ⟨_, rfl, hb, h1⟩
set_option maxRecDepth 20000 in
set_option maxHeartbeats 2000000 in
theorem qtold_z (w : World) (Bx : Nat) (nx : Bool) (ax : Option Addr) (cx : Nat) (xs : List Int) (px : Int) (Gx : Dm.Wh w nx ax cx xs px) (Lx : xs.length ≤ Bx) (ox : Bool) (bx : Option Addr) (dx : Nat) (xt : List Int) (qx : Int) (Kx : Dm.Wh w ox bx dx xt qx) (Mx : xt.length ≤ Bx) (hL : Bx ≤ 400000) (hq : 0 < qx) :
    Calls Tryd.prog 59 #[.agg #[.bool nx, .slice ax xs.length cx, .bool ox, .slice bx xt.length dx]] w fun e w' => ∃ v, e = .returned v ∧ (OutR px qx (2 * Bx)) v w' ∧ Below w.heap.size w w' := by
  go_enter Tryd.func59, Tryd.ntmps59
  generalize hA : (Act.mk _ _) = aa
  have hn : aa.tmps.size = 10 := by rw [← hA]; rfl
  have hd : aa.defers = [] := by rw [← hA]
  have f0 : aa.eval (.tmp 0) = .agg #[.bool nx, .slice ax xs.length cx, .bool ox, .slice bx xt.length dx] := by rw [← hA]; rfl
  clear hA
  have HB : Below w.heap.size w w := Below.refl _ _
  refine wp_seq ?_
  refine region4 [some 1, some 2] [(fun _ _ => True), (fun _ _ => True)] [⟨Q4, some 0, 0, 1, .agg #[.bool nx, .slice ax xs.length cx, .bool ox, .slice bx xt.length dx], none, []⟩, ⟨R3, some 1, 0, 2, .agg #[.bool false, .slice none 0 0, .slice none 0 0], none, []⟩] [] (by kernel_rfl) hn rfl (by kernel_rfl) (by kernel_rfl) (by kernel_rfl) (by kernel_rfl) (by kernel_rfl) (by kernel_rfl) ⟨True.mono4, True.mono4, trivial⟩ (ok_cons Q4ok (ok_cons R3ok ok_nil)) (IsOld.all (bx := [⟨Q4, some 0, 0, 1, .agg #[.bool nx, .slice ax xs.length cx, .bool ox, .slice bx xt.length dx], none, []⟩, ⟨R3, some 1, 0, 2, .agg #[.bool false, .slice none 0 0, .slice none 0 0], none, []⟩]) ⟨someNe, someNe, trivial⟩) (DisOld.all (bx := [⟨Q4, some 0, 0, 1, .agg #[.bool nx, .slice ax xs.length cx, .bool ox, .slice bx xt.length dx], none, []⟩, ⟨R3, some 1, 0, 2, .agg #[.bool false, .slice none 0 0, .slice none 0 0], none, []⟩]) ⟨someNe, someNe, trivial⟩) ?_ ?_
  · exact ⟨.alloc 0 _ rfl rfl (.inr ⟨_, rfl, q4_cs, fun a_ hR => (hR 0 rfl).trans f0⟩) rfl rfl rfl rfl rfl,
      .alloc 1 _ rfl rfl (.inl ⟨rfl, rfl⟩) rfl rfl rfl rfl rfl,
      trivial⟩
  · intro a1 w1 gs1 hn1 hd1 hBt hr hR hP hX hU
    replace hn := hn1; replace hd := hd1.trans hd
    have ne1_2 : gs1 0 ≠ gs1 1 := hU 0 1 (by simp) (by simp) (by decide)
    have b1 : BoxV Q4 w1 (gs1 0) (.agg #[.bool nx, .slice ax xs.length cx, .bool ox, .slice bx xt.length dx]) := (hX 0 _ rfl).2.2.2
    have f1 := (hX 0 _ rfl).1
    have u1 : w.heap.size ≤ gs1 0 := Nat.le_trans HB.size ((hX 0 _ rfl).2.2.1 (by simp))
    have b2 : BoxV R3 w1 (gs1 1) (.agg #[.bool false, .slice none 0 0, .slice none 0 0]) := (hX 1 _ rfl).2.2.2
    have f2 := (hX 1 _ rfl).1
    have u2 : w.heap.size ≤ gs1 1 := Nat.le_trans HB.size ((hX 1 _ rfl).2.2.1 (by simp))
    replace Gx := Gx.rl hr
    replace Kx := Kx.rl hr
    replace HB := HB.trans (hBt.below HB.size (UpOld.all (bx := [⟨Q4, some 0, 0, 1, .agg #[.bool nx, .slice ax xs.length cx, .bool ox, .slice bx xt.length dx], none, []⟩, ⟨R3, some 1, 0, 2, .agg #[.bool false, .slice none 0 0, .slice none 0 0], none, []⟩]) ⟨someNe, someNe, trivial⟩))
    clear hBt hr hR hP hX hU
    refine wp_seq ?_
    refine region4 [some 3, some 4, some 5, some 6, some 7, some 8, some 9, none] [Eqs (.pointer (some ⟨gs1 0, 0, none⟩)), Eqs (.agg #[.bool nx, .slice ax xs.length cx]), OutW (px) (Bx), Eqs (.pointer (some ⟨gs1 0, 2, none⟩)), Eqs (.agg #[.bool ox, .slice bx xt.length dx]), OutL (qx) (Bx), OutR (px) (qx) ((Bx) + (Bx)), (fun _ _ => True)] [⟨R3, none, (gs1 1), 2, .agg #[.bool false, .slice none 0 0, .slice none 0 0], some (7, 9, 6), []⟩] [] (by kernel_rfl) hn rfl (by kernel_rfl) (by kernel_rfl) (by kernel_rfl) (by kernel_rfl) (by kernel_rfl) (by kernel_rfl) ⟨Eqs.mono4 _, Eqs.mono4 _, OutW.mono4 _ _, Eqs.mono4 _, Eqs.mono4 _, OutL.mono4 _ _, OutR.mono4 _ _ _, True.mono4, trivial⟩ (ok_cons R3ok ok_nil) (IsOld.all (bx := [⟨R3, none, (gs1 1), 2, .agg #[.bool false, .slice none 0 0, .slice none 0 0], some (7, 9, 6), []⟩]) ⟨fun _ => ⟨f2, b2⟩, trivial⟩) (DisOld.all (bx := [⟨R3, none, (gs1 1), 2, .agg #[.bool false, .slice none 0 0, .slice none 0 0], some (7, 9, 6), []⟩]) ⟨fun _ => trivial, trivial⟩) ?_ ?_
    · exact ⟨.norm 3 rfl rfl rfl (fun a_ w_ hn_ hBt hr hR hD hO hS => op_faQ fa_q0 ((hR 1 rfl).trans f1)),
        .norm 4 rfl rfl rfl (fun a_ w_ hn_ hBt hr hR hD hO hS => op_ldq0 (show a_.eval (.tmp 3) = .pointer (some ⟨gs1 0, 0, none⟩) from hD 0 rfl) (b1.keep hBt ⟨fun _ => ne1_2.symm, trivial⟩)),
        .norm 5 rfl rfl rfl (fun a_ w_ hn_ hBt hr hR hD hO hS => op_ntold (outn_eq (show a_.eval (.tmp 4) = .agg #[.bool nx, .slice ax xs.length cx] from hD 1 rfl) (Gx.rl hr) Lx) (by omega)),
        .norm 6 rfl rfl rfl (fun a_ w_ hn_ hBt hr hR hD hO hS => op_faQ fa_q1 ((hR 1 rfl).trans f1)),
        .norm 7 rfl rfl rfl (fun a_ w_ hn_ hBt hr hR hD hO hS => op_ldq1 (show a_.eval (.tmp 6) = .pointer (some ⟨gs1 0, 2, none⟩) from hD 3 rfl) (b1.keep hBt ⟨fun _ => ne1_2.symm, trivial⟩)),
        .norm 8 rfl rfl rfl (fun a_ w_ hn_ hBt hr hR hD hO hS => op_nlimbs (outn_eq (show a_.eval (.tmp 7) = .agg #[.bool ox, .slice bx xt.length dx] from hD 4 rfl) (Kx.rl hr) Mx) (by omega) hq),
        .norm 9 rfl rfl rfl (fun a_ w_ hn_ hBt hr hR hD hO hS => op_bRo ((show OutW (px) (Bx) (a_.eval (.tmp 5)) w_ from hD 2 rfl).to rfl (by omega)) ((show OutL (qx) (Bx) (a_.eval (.tmp 8)) w_ from hD 5 rfl).to (by omega))),
        .store 0 _ _ _ rfl rfl rfl rfl rfl rfl rfl (fun ia h => by cases h) rfl rfl rfl OutR.cs,
        trivial⟩
    · intro a2 w2 gs2 hn2 hd2 hBt hr hR hP hX hU
      replace hn := hn2; replace hd := hd2.trans hd
      obtain ⟨n_3, a_3, c_3, r_3, b_3, d_3, s_3, e9, G3, K3, l3, k3⟩ : OutR (px) (qx) ((Bx) + (Bx)) (a2.eval (.tmp 9)) w2 := hP 6 (by decide)
      have A3 := G3.ag; have S3 := K3.sl; have V3 := K3.val
      have b2 : BoxV R3 w2 ((gs1 1)) (.agg #[.bool n_3, .slice a_3 r_3.length c_3, .slice b_3 s_3.length d_3]) := boxv_old ((hX 0 _ rfl).2.1 rfl) (hX 0 _ rfl).2.2.2 e9
      replace f2 : a2.eval (.tmp 2) = _ := (hR 2 rfl).trans f2
      replace Gx := Gx.rl hr
      replace Kx := Kx.rl hr
      replace HB := HB.trans (hBt.below HB.size (UpOld.all (bx := [⟨R3, none, (gs1 1), 2, .agg #[.bool false, .slice none 0 0, .slice none 0 0], some (7, 9, 6), []⟩]) ⟨fun _ => u2, trivial⟩))
      clear hBt hr hR hP hX hU
      refine wp_ret ?_
      repeat (first | refine then_ret ?_ | refine scope_ret ?_ | refine block_ret ?_)
      exact bodyPost_ret (v := .agg #[.bool n_3, .slice a_3 r_3.length c_3, .slice b_3 s_3.length d_3]) (res_c rfl f2 (lv_R3 b2)) hd ⟨_, rfl, OutR.to (outr_eq rfl G3 K3 l3 k3) rfl rfl (by omega), HB⟩
theorem has_qtold : Has Tryd.prog 59 := by unfold Has; kernel_rfl
theorem op_qtold {dst : Option Tmp} {ty : TypeId} {pos : String} {after : Array Edge} {guard : Option (Nat × Bool)} {a : Act} {w : World} {ats : Array TypeId} {i : Nat} {Bx : Nat} {px qx : Int} (Hx : OutQ px qx Bx (a.eval (.tmp i)) w) (hL : Bx ≤ 400000) (hq : 0 < qx) :
    Does Tryd.prog { dst, op := .call { callee := .value (.func 59), args := #[.tmp i], argTypes := ats }, type := ty, pos, after, guard } a.eval w fun v w' => Below w.heap.size w w' ∧ (OutR px qx (2 * Bx)) v w' := by
  obtain ⟨nx, ax, cx, xs, ox, bx, dx, xt, ex, Gx, Kx, Lx, Mx⟩ := Hx
  refine does_call has_qtold _ (by simp only [List.map_toArray, List.map_cons, List.map_nil, ex]) ((qtold_z w Bx _ _ _ _ _ Gx Lx _ _ _ _ _ Kx Mx hL hq).mono ?_)
  rintro e w' ⟨v, rfl, h1, hb⟩
  exact ⟨_, rfl, hb, h1⟩
set_option maxRecDepth 20000 in
set_option maxHeartbeats 2000000 in
theorem copyw_z (w : World) (Bx : Nat) (nx : Bool) (ax : Option Addr) (mx cx : Nat) (xs : List Int) (zx : Int) (Ax : Ag w nx ax mx cx xs zx) (Lx : xs.length ≤ Bx) (hL : Bx ≤ 100000) :
    Calls Tryd.prog 14 #[.agg #[.bool nx, .slice ax mx cx]] w fun e w' => ∃ v, e = .returned v ∧ (IsW zx Bx) v w' ∧ Below w.heap.size w w' := by
  go_enter Tryd.func14, Tryd.ntmps14
  generalize hA : (Act.mk _ _) = aa
  have hn : aa.tmps.size = 9 := by rw [← hA]; rfl
  have hd : aa.defers = [] := by rw [← hA]
  have f0 : aa.eval (.tmp 0) = .agg #[.bool nx, .slice ax mx cx] := by rw [← hA]; rfl
  clear hA
  have HB : Below w.heap.size w w := Below.refl _ _
  have Tx := Ax.sl
  have hwx := Ax.worth
  refine wp_seq ?_
  refine region4 [some 1, some 2] [(fun _ _ => True), (fun _ _ => True)] [⟨W2, some 0, 0, 1, .agg #[.bool nx, .slice ax mx cx], none, []⟩, ⟨W2, some 1, 0, 2, .agg #[.bool false, .slice none 0 0], none, []⟩] [] (by kernel_rfl) hn rfl (by kernel_rfl) (by kernel_rfl) (by kernel_rfl) (by kernel_rfl) (by kernel_rfl) (by kernel_rfl) ⟨True.mono4, True.mono4, trivial⟩ (ok_cons W2ok (ok_cons W2ok ok_nil)) (IsOld.all (bx := [⟨W2, some 0, 0, 1, .agg #[.bool nx, .slice ax mx cx], none, []⟩, ⟨W2, some 1, 0, 2, .agg #[.bool false, .slice none 0 0], none, []⟩]) ⟨someNe, someNe, trivial⟩) (DisOld.all (bx := [⟨W2, some 0, 0, 1, .agg #[.bool nx, .slice ax mx cx], none, []⟩, ⟨W2, some 1, 0, 2, .agg #[.bool false, .slice none 0 0], none, []⟩]) ⟨someNe, someNe, trivial⟩) ?_ ?_
  · exact ⟨.alloc 0 _ rfl rfl (.inr ⟨_, rfl, w2_cs, fun a_ hR => (hR 0 rfl).trans f0⟩) rfl rfl rfl rfl rfl,
      .alloc 1 _ rfl rfl (.inl ⟨rfl, rfl⟩) rfl rfl rfl rfl rfl,
      trivial⟩
  · intro a1 w1 gs1 hn1 hd1 hBt hr hR hP hX hU
    replace hn := hn1; replace hd := hd1.trans hd
    have ne1_2 : gs1 0 ≠ gs1 1 := hU 0 1 (by simp) (by simp) (by decide)
    have b1 : BoxV W2 w1 (gs1 0) (.agg #[.bool nx, .slice ax mx cx]) := (hX 0 _ rfl).2.2.2
    have f1 := (hX 0 _ rfl).1
    have u1 : w.heap.size ≤ gs1 0 := Nat.le_trans HB.size ((hX 0 _ rfl).2.2.1 (by simp))
    have b2 : BoxV W2 w1 (gs1 1) (.agg #[.bool false, .slice none 0 0]) := (hX 1 _ rfl).2.2.2
    have f2 := (hX 1 _ rfl).1
    have u2 : w.heap.size ≤ gs1 1 := Nat.le_trans HB.size ((hX 1 _ rfl).2.2.1 (by simp))
    replace Ax := Ax.rl hr
    replace Tx := Tx.rl hr
    replace HB := HB.trans (hBt.below HB.size (UpOld.all (bx := [⟨W2, some 0, 0, 1, .agg #[.bool nx, .slice ax mx cx], none, []⟩, ⟨W2, some 1, 0, 2, .agg #[.bool false, .slice none 0 0], none, []⟩]) ⟨someNe, someNe, trivial⟩))
    clear hBt hr hR hP hX hU
    refine wp_seq ?_
    refine region4 [some 3, some 4, some 5, some 6, some 7, some 8, none] [Eqs (.pointer (some ⟨gs1 0, 0, none⟩)), Eqs (.bool nx), Eqs (.pointer (some ⟨gs1 0, 1, none⟩)), Eqs (.slice ax mx cx), CopyL xs, IsW (zx) (Bx), (fun _ _ => True)] [⟨W2, none, (gs1 1), 2, .agg #[.bool false, .slice none 0 0], some (6, 8, 5), []⟩] [] (by kernel_rfl) hn rfl (by kernel_rfl) (by kernel_rfl) (by kernel_rfl) (by kernel_rfl) (by kernel_rfl) (by kernel_rfl) ⟨Eqs.mono4 _, Eqs.mono4 _, Eqs.mono4 _, Eqs.mono4 _, CopyL.mono4 _, IsW.mono4 _ _, True.mono4, trivial⟩ (ok_cons W2ok ok_nil) (IsOld.all (bx := [⟨W2, none, (gs1 1), 2, .agg #[.bool false, .slice none 0 0], some (6, 8, 5), []⟩]) ⟨fun _ => ⟨f2, b2⟩, trivial⟩) (DisOld.all (bx := [⟨W2, none, (gs1 1), 2, .agg #[.bool false, .slice none 0 0], some (6, 8, 5), []⟩]) ⟨fun _ => trivial, trivial⟩) ?_ ?_
    · exact ⟨.norm 3 rfl rfl rfl (fun a_ w_ hn_ hBt hr hR hD hO hS => op_fa fa_neg ((hR 1 rfl).trans f1)),
        .norm 4 rfl rfl rfl (fun a_ w_ hn_ hBt hr hR hD hO hS => op_ldneg (show a_.eval (.tmp 3) = .pointer (some ⟨gs1 0, 0, none⟩) from hD 0 rfl) (b1.keep hBt ⟨fun _ => ne1_2.symm, trivial⟩)),
        .norm 5 rfl rfl rfl (fun a_ w_ hn_ hBt hr hR hD hO hS => op_fa fa_mag ((hR 1 rfl).trans f1)),
        .norm 6 rfl rfl rfl (fun a_ w_ hn_ hBt hr hR hD hO hS => op_ldmag (show a_.eval (.tmp 5) = .pointer (some ⟨gs1 0, 1, none⟩) from hD 2 rfl) (b1.keep hBt ⟨fun _ => ne1_2.symm, trivial⟩)),
        .norm 7 rfl rfl rfl (fun a_ w_ hn_ hBt hr hR hD hO hS => op_lcopy (show a_.eval (.tmp 6) = .slice ax mx cx from hD 3 rfl) (Tx.rl hr) (by omega)),
        .norm 8 rfl rfl rfl (fun a_ w_ hn_ hBt hr hR hD hO hS => op_bWc (show a_.eval (.tmp 4) = .bool nx from hD 1 rfl) (show CopyL xs (a_.eval (.tmp 7)) w_ from hD 4 rfl) hwx Lx),
        .store 0 _ _ _ rfl rfl rfl rfl rfl rfl rfl (fun ia h => by cases h) rfl rfl rfl IsW.cs,
        trivial⟩
    · intro a2 w2 gs2 hn2 hd2 hBt hr hR hP hX hU
      replace hn := hn2; replace hd := hd2.trans hd
      obtain ⟨n_3, a_3, m_3, c_3, r_3, e8, A3, l3⟩ : IsW (zx) (Bx) (a2.eval (.tmp 8)) w2 := hP 5 (by decide)
      have b2 : BoxV W2 w2 ((gs1 1)) (.agg #[.bool n_3, .slice a_3 m_3 c_3]) := boxv_old ((hX 0 _ rfl).2.1 rfl) (hX 0 _ rfl).2.2.2 e8
      replace f2 : a2.eval (.tmp 2) = _ := (hR 2 rfl).trans f2
      replace Ax := Ax.rl hr
      replace Tx := Tx.rl hr
      replace HB := HB.trans (hBt.below HB.size (UpOld.all (bx := [⟨W2, none, (gs1 1), 2, .agg #[.bool false, .slice none 0 0], some (6, 8, 5), []⟩]) ⟨fun _ => u2, trivial⟩))
      clear hBt hr hR hP hX hU
      refine wp_ret ?_
      repeat (first | refine then_ret ?_ | refine scope_ret ?_ | refine block_ret ?_)
      exact bodyPost_ret (v := .agg #[.bool n_3, .slice a_3 m_3 c_3]) (res_c rfl f2 (lv_W2 b2)) hd ⟨_, rfl, isw_eq rfl A3 l3, HB⟩
theorem has_copyw : Has Tryd.prog 14 := by unfold Has; kernel_rfl
theorem op_copyw {dst : Option Tmp} {ty : TypeId} {pos : String} {after : Array Edge} {guard : Option (Nat × Bool)} {a : Act} {w : World} {ats : Array TypeId} {i : Nat} {Bx : Nat} {zx : Int} (Hx : IsW zx Bx (a.eval (.tmp i)) w) (hL : Bx ≤ 100000) :
    Does Tryd.prog { dst, op := .call { callee := .value (.func 14), args := #[.tmp i], argTypes := ats }, type := ty, pos, after, guard } a.eval w fun v w' => Below w.heap.size w w' ∧ (IsW zx Bx) v w' := by
  obtain ⟨nx, ax, mx, cx, xs, ex, Ax, Lx⟩ := Hx
  refine does_call has_copyw _ (by simp only [List.map_toArray, List.map_cons, List.map_nil, ex]) ((copyw_z w Bx _ _ _ _ _ _ Ax Lx hL).mono ?_)
  rintro e w' ⟨v, rfl, h1, hb⟩
  exact ⟨_, rfl, hb, h1⟩
end Lm
end Go.Proofs.YtdiiankcjgoecaaDoor

namespace Go.Proofs.YtdiiankcjgoecaaDoor
namespace Lm
open Go Go.RowKit
theorem outn_zero {v : Value} (w : World) (h : v = .agg #[.bool false, .slice none 0 0]) : OutN 0 0 v w := ⟨false, none, 0, [], h, ⟨⟨⟨none, 0, rfl, Nat.le_refl _, by simp [maxLen], (fun _ h => by cases h), .inl rfl⟩, ⟨(fun _ h => by cases h), rfl⟩, rfl⟩, rfl⟩, Nat.le_refl _⟩
theorem read_zero {p q : Int} (h : q = 0) : 0 = nm (tp p q) (tq q) ∧ 1 = dn (tp p q) (tq q) := by
  subst h
  simp [nm, dn, tp, tq]
theorem read_some {p q : Int} (h : q ≠ 0) : nm p q = nm (tp p q) (tq q) ∧ dn p q = dn (tp p q) (tq q) := by
  simp [tp, tq, h]
section
variable {dst : Option Tmp} {ty : TypeId} {pos : String} {after : Array Edge} {guard : Option (Nat × Bool)} {a : Act} {w : World} {ats : Array TypeId} {i : Nat} {x p q : Int} {L : Nat}
theorem has_nfrom : Has Tryd.prog 89 := by unfold Has; kernel_rfl
theorem op_nfrom (h : IsL x L (a.eval (.tmp i)) w) (hL : L ≤ 100000) :
    Does Tryd.prog { dst, op := .call { callee := .value (.func 89), args := #[.tmp i], argTypes := ats }, type := ty, pos, after, guard } a.eval w fun v w' => Below w.heap.size w w' ∧ OutN x (3 * L) v w' := by
  obtain ⟨ao, n, cap, xs, e, hs, hv, hl⟩ := h
  have h0 := (val_bounds hs.parts.2.2.2).1
  refine does_call has_nfrom _ (by simp only [List.map_toArray, List.map_cons, List.map_nil, e]) ((Dm.fromLimbs_any w ao n cap xs hs (by omega)).mono ?_)
  rintro e w' ⟨ao', cap', D, rfl, G, hl', hb⟩
  rw [hv] at G h0
  refine ⟨_, rfl, hb, _, _, _, _, rfl, ⟨?_, (decide_eq_false (by omega)).symm⟩, by omega⟩
  rwa [show ((x.natAbs : Nat) : Int) = x by omega]
theorem op_bN0 : Does Tryd.prog { dst, op := .build 77 #[], type := ty, pos, after, guard } a.eval w fun v' w' => Below w.heap.size w w' ∧ Eqs (.agg #[.bool false, .slice none 0 0]) v' w' := by
  have e : (execOp a.eval { dst, op := .build 77 #[], type := ty, pos, after, guard }).run Tryd.prog w = .ok (.value (.agg #[.bool false, .slice none 0 0])) w := by
    simp only [execOp, List.map_toArray, List.map_nil]
    go_simp
  refine ⟨?_⟩
  unfold Turns
  rw [e]
  exact ⟨Below.refl _ _, rfl⟩
end
set_option maxRecDepth 20000 in
set_option maxHeartbeats 2000000 in
theorem qzero_z (w : World)   :
    Calls Tryd.prog 98 #[] w fun e w' => ∃ v, e = .returned v ∧ (OutQ 0 1 5) v w' ∧ Below w.heap.size w w' := by
  go_enter Tryd.func98, Tryd.ntmps98
  generalize hA : (Act.mk _ _) = aa
  have hn : aa.tmps.size = 4 := by rw [← hA]; rfl
  have hd : aa.defers = [] := by rw [← hA]
  clear hA
  have HB : Below w.heap.size w w := Below.refl _ _
  refine wp_seq ?_
  refine region4 [some 0] [(fun _ _ => True)] [⟨Q4, some 0, 0, 0, .agg #[.bool false, .slice none 0 0, .bool false, .slice none 0 0], none, []⟩] [] (by kernel_rfl) hn rfl (by kernel_rfl) (by kernel_rfl) (by kernel_rfl) (by kernel_rfl) (by kernel_rfl) (by kernel_rfl) ⟨True.mono4, trivial⟩ (ok_cons Q4ok ok_nil) (IsOld.all (bx := [⟨Q4, some 0, 0, 0, .agg #[.bool false, .slice none 0 0, .bool false, .slice none 0 0], none, []⟩]) ⟨someNe, trivial⟩) (DisOld.all (bx := [⟨Q4, some 0, 0, 0, .agg #[.bool false, .slice none 0 0, .bool false, .slice none 0 0], none, []⟩]) ⟨someNe, trivial⟩) ?_ ?_
  · exact ⟨.alloc 0 _ rfl rfl (.inl ⟨rfl, rfl⟩) rfl rfl rfl rfl rfl,
      trivial⟩
  · intro a1 w1 gs1 hn1 hd1 hBt hr hR hP hX hU
    replace hn := hn1; replace hd := hd1.trans hd
    have b0 : BoxV Q4 w1 (gs1 0) (.agg #[.bool false, .slice none 0 0, .bool false, .slice none 0 0]) := (hX 0 _ rfl).2.2.2
    have f0 := (hX 0 _ rfl).1
    have u0 : w.heap.size ≤ gs1 0 := Nat.le_trans HB.size ((hX 0 _ rfl).2.2.1 (by simp))
    replace HB := HB.trans (hBt.below HB.size (UpOld.all (bx := [⟨Q4, some 0, 0, 0, .agg #[.bool false, .slice none 0 0, .bool false, .slice none 0 0], none, []⟩]) ⟨someNe, trivial⟩))
    clear hBt hr hR hP hX hU
    refine wp_seq ?_
    refine region4 [some 1, some 2, some 3, none] [Eqs (.agg #[.bool false, .slice none 0 0]), OutN (1) (5), OutQ (0) (1) ((0) + (5)), (fun _ _ => True)] [⟨Q4, none, (gs1 0), 0, .agg #[.bool false, .slice none 0 0, .bool false, .slice none 0 0], some (3, 3, 2), []⟩] [] (by kernel_rfl) hn rfl (by kernel_rfl) (by kernel_rfl) (by kernel_rfl) (by kernel_rfl) (by kernel_rfl) (by kernel_rfl) ⟨Eqs.mono4 _, OutN.mono4 _ _, OutQ.mono4 _ _ _, True.mono4, trivial⟩ (ok_cons Q4ok ok_nil) (IsOld.all (bx := [⟨Q4, none, (gs1 0), 0, .agg #[.bool false, .slice none 0 0, .bool false, .slice none 0 0], some (3, 3, 2), []⟩]) ⟨fun _ => ⟨f0, b0⟩, trivial⟩) (DisOld.all (bx := [⟨Q4, none, (gs1 0), 0, .agg #[.bool false, .slice none 0 0, .bool false, .slice none 0 0], some (3, 3, 2), []⟩]) ⟨fun _ => trivial, trivial⟩) ?_ ?_
    · exact ⟨.norm 1 rfl rfl rfl (fun a_ w_ hn_ hBt hr hR hD hO hS => op_bN0),
        .norm 2 rfl rfl rfl (fun a_ w_ hn_ hBt hr hR hD hO hS => op_nint (by omega) (by omega)),
        .norm 3 rfl rfl rfl (fun a_ w_ hn_ hBt hr hR hD hO hS => op_bQ (L := (0) + (5)) ((outn_zero _ (show a_.eval (.tmp 1) = .agg #[.bool false, .slice none 0 0] from hD 0 rfl)).to rfl (by omega)) ((show OutN (1) (5) (a_.eval (.tmp 2)) w_ from hD 1 rfl).to rfl (by omega))),
        .store 0 _ _ _ rfl rfl rfl rfl rfl rfl rfl (fun ia h => by cases h) rfl rfl rfl OutQ.cs,
        trivial⟩
    · intro a2 w2 gs2 hn2 hd2 hBt hr hR hP hX hU
      replace hn := hn2; replace hd := hd2.trans hd
      obtain ⟨n_3, a_3, c_3, r_3, o_3, b_3, d_3, s_3, e3, G3, K3, l3, k3⟩ : OutQ (0) (1) ((0) + (5)) (a2.eval (.tmp 3)) w2 := hP 2 (by decide)
      have b0 : BoxV Q4 w2 ((gs1 0)) (.agg #[.bool n_3, .slice a_3 r_3.length c_3, .bool o_3, .slice b_3 s_3.length d_3]) := boxv_old ((hX 0 _ rfl).2.1 rfl) (hX 0 _ rfl).2.2.2 e3
      replace f0 : a2.eval (.tmp 0) = _ := (hR 0 rfl).trans f0
      replace HB := HB.trans (hBt.below HB.size (UpOld.all (bx := [⟨Q4, none, (gs1 0), 0, .agg #[.bool false, .slice none 0 0, .bool false, .slice none 0 0], some (3, 3, 2), []⟩]) ⟨fun _ => u0, trivial⟩))
      clear hBt hr hR hP hX hU
      refine wp_ret ?_
      repeat (first | refine then_ret ?_ | refine scope_ret ?_ | refine block_ret ?_)
      exact bodyPost_ret (v := .agg #[.bool n_3, .slice a_3 r_3.length c_3, .bool o_3, .slice b_3 s_3.length d_3]) (res_c rfl f0 (lv_Q4 b0)) hd ⟨_, rfl, OutQ.to (outq_eq rfl G3 K3 l3 k3) rfl rfl (by omega), HB⟩
theorem has_qzero : Has Tryd.prog 98 := by unfold Has; kernel_rfl
theorem op_qzero {dst : Option Tmp} {ty : TypeId} {pos : String} {after : Array Edge} {guard : Option (Nat × Bool)} {a : Act} {w : World} {ats : Array TypeId}   :
    Does Tryd.prog { dst, op := .call { callee := .value (.func 98), args := #[], argTypes := ats }, type := ty, pos, after, guard } a.eval w fun v w' => Below w.heap.size w w' ∧ (OutQ 0 1 5) v w' := by
  
  refine does_call has_qzero _ (by simp only [List.map_toArray, List.map_nil]) ((qzero_z w  ).mono ?_)
  rintro e w' ⟨v, rfl, h1, hb⟩
  exact ⟨_, rfl, hb, h1⟩
set_option maxRecDepth 20000 in
set_option maxHeartbeats 2000000 in
theorem qread_z (w : World) (Br : Nat) (nr : Bool) (ar : Option Addr) (mr cr : Nat) (rs : List Int) (pr : Int) (Ar : Ag w nr ar mr cr rs pr) (Lr : rs.length ≤ Br) (br : Option Addr) (kr dr : Nat) (rt : List Int) (qr : Int) (Sr : Sl w (.slice br kr dr) rt) (Vr : val rt = qr) (Mr : rt.length ≤ Br) (hL : Br ≤ 10000) :
    Calls Tryd.prog 64 #[.agg #[.bool nr, .slice ar mr cr, .slice br kr dr]] w fun e w' => ∃ v, e = .returned v ∧ (OutQ (nm (tp pr qr) (tq qr)) (dn (tp pr qr) (tq qr)) (6 * Br + 10)) v w' ∧ Below w.heap.size w w' := by
  go_enter Tryd.func64, Tryd.ntmps64
  generalize hA : (Act.mk _ _) = aa
  have hn : aa.tmps.size = 16 := by rw [← hA]; rfl
  have hd : aa.defers = [] := by rw [← hA]
  have f0 : aa.eval (.tmp 0) = .agg #[.bool nr, .slice ar mr cr, .slice br kr dr] := by rw [← hA]; rfl
  clear hA
  have HB : Below w.heap.size w w := Below.refl _ _
  have Dr : Ag w false br kr dr rt qr := ⟨Sr, Vr⟩
  refine wp_seq ?_
  refine region4 [some 1, some 2] [(fun _ _ => True), (fun _ _ => True)] [⟨R3, some 0, 0, 1, .agg #[.bool nr, .slice ar mr cr, .slice br kr dr], none, []⟩, ⟨Q4, some 1, 0, 2, .agg #[.bool false, .slice none 0 0, .bool false, .slice none 0 0], none, []⟩] [] (by kernel_rfl) hn rfl (by kernel_rfl) (by kernel_rfl) (by kernel_rfl) (by kernel_rfl) (by kernel_rfl) (by kernel_rfl) ⟨True.mono4, True.mono4, trivial⟩ (ok_cons R3ok (ok_cons Q4ok ok_nil)) (IsOld.all (bx := [⟨R3, some 0, 0, 1, .agg #[.bool nr, .slice ar mr cr, .slice br kr dr], none, []⟩, ⟨Q4, some 1, 0, 2, .agg #[.bool false, .slice none 0 0, .bool false, .slice none 0 0], none, []⟩]) ⟨someNe, someNe, trivial⟩) (DisOld.all (bx := [⟨R3, some 0, 0, 1, .agg #[.bool nr, .slice ar mr cr, .slice br kr dr], none, []⟩, ⟨Q4, some 1, 0, 2, .agg #[.bool false, .slice none 0 0, .bool false, .slice none 0 0], none, []⟩]) ⟨someNe, someNe, trivial⟩) ?_ ?_
  · exact ⟨.alloc 0 _ rfl rfl (.inr ⟨_, rfl, r3_cs, fun a_ hR => (hR 0 rfl).trans f0⟩) rfl rfl rfl rfl rfl,
      .alloc 1 _ rfl rfl (.inl ⟨rfl, rfl⟩) rfl rfl rfl rfl rfl,
      trivial⟩
  · intro a1 w1 gs1 hn1 hd1 hBt hr hR hP hX hU
    replace hn := hn1; replace hd := hd1.trans hd
    have ne1_2 : gs1 0 ≠ gs1 1 := hU 0 1 (by simp) (by simp) (by decide)
    have b1 : BoxV R3 w1 (gs1 0) (.agg #[.bool nr, .slice ar mr cr, .slice br kr dr]) := (hX 0 _ rfl).2.2.2
    have f1 := (hX 0 _ rfl).1
    have u1 : w.heap.size ≤ gs1 0 := Nat.le_trans HB.size ((hX 0 _ rfl).2.2.1 (by simp))
    have b2 : BoxV Q4 w1 (gs1 1) (.agg #[.bool false, .slice none 0 0, .bool false, .slice none 0 0]) := (hX 1 _ rfl).2.2.2
    have f2 := (hX 1 _ rfl).1
    have u2 : w.heap.size ≤ gs1 1 := Nat.le_trans HB.size ((hX 1 _ rfl).2.2.1 (by simp))
    replace Ar := Ar.rl hr
    replace Sr := Sr.rl hr
    replace Dr := Dr.rl hr
    replace HB := HB.trans (hBt.below HB.size (UpOld.all (bx := [⟨R3, some 0, 0, 1, .agg #[.bool nr, .slice ar mr cr, .slice br kr dr], none, []⟩, ⟨Q4, some 1, 0, 2, .agg #[.bool false, .slice none 0 0, .bool false, .slice none 0 0], none, []⟩]) ⟨someNe, someNe, trivial⟩))
    clear hBt hr hR hP hX hU
    refine wp_seq ?_
    refine region4 [some 4, some 5, some 6, some 3, none] [Eqs (.pointer (some ⟨gs1 0, 2, none⟩)), Eqs (.slice br kr dr), OutN (qr) (3 * (Br)), (fun _ _ => True), (fun _ _ => True)] [⟨N2, some 3, 0, 3, .agg #[.bool false, .slice none 0 0], some (4, 6, 2), []⟩] [] (by kernel_rfl) hn rfl (by kernel_rfl) (by kernel_rfl) (by kernel_rfl) (by kernel_rfl) (by kernel_rfl) (by kernel_rfl) ⟨Eqs.mono4 _, Eqs.mono4 _, OutN.mono4 _ _, True.mono4, True.mono4, trivial⟩ (ok_cons N2ok ok_nil) (IsOld.all (bx := [⟨N2, some 3, 0, 3, .agg #[.bool false, .slice none 0 0], some (4, 6, 2), []⟩]) ⟨someNe, trivial⟩) (DisOld.all (bx := [⟨N2, some 3, 0, 3, .agg #[.bool false, .slice none 0 0], some (4, 6, 2), []⟩]) ⟨someNe, trivial⟩) ?_ ?_
    · exact ⟨.norm 4 rfl rfl rfl (fun a_ w_ hn_ hBt hr hR hD hO hS => op_faR fa_den ((hR 1 rfl).trans f1)),
        .norm 5 rfl rfl rfl (fun a_ w_ hn_ hBt hr hR hD hO hS => op_ldden (show a_.eval (.tmp 4) = .pointer (some ⟨gs1 0, 2, none⟩) from hD 0 rfl) (b1.keep hBt ⟨someNe, trivial⟩)),
        .norm 6 rfl rfl rfl (fun a_ w_ hn_ hBt hr hR hD hO hS => op_nfrom (isl_eq (show a_.eval (.tmp 5) = .slice br kr dr from hD 1 rfl) (Sr.rl hr) Vr Mr) (by omega)),
        .alloc 0 _ rfl rfl (.inl ⟨rfl, rfl⟩) rfl rfl rfl rfl rfl,
        .store 0 _ _ _ rfl rfl rfl rfl rfl rfl rfl (fun ia h => by cases h; rfl) rfl rfl rfl OutN.cs,
        trivial⟩
    · intro a2 w2 gs2 hn2 hd2 hBt hr hR hP hX hU
      replace hn := hn2; replace hd := hd2.trans hd
      have ne2_3 : (gs1 1) ≠ gs2 0 := by have h1 := b2.lt; have h2 := (hX 0 _ rfl).2.2.1 (by simp); omega
      replace b1 := b1.keep hBt ⟨someNe, trivial⟩
      replace b2 := b2.keep hBt ⟨someNe, trivial⟩
      obtain ⟨n_3, a_3, c_3, r_3, e6, G3, l3⟩ : OutN (qr) (3 * (Br)) (a2.eval (.tmp 6)) w2 := hP 2 (by decide)
      have b3 : BoxV N2 w2 (gs2 0) (.agg #[.bool n_3, .slice a_3 r_3.length c_3]) := boxv_of (hX 0 _ rfl).2.2.2 e6
      have f3 := (hX 0 _ rfl).1
      have u3 : w.heap.size ≤ gs2 0 := Nat.le_trans HB.size ((hX 0 _ rfl).2.2.1 (by simp))
      replace f1 := (hR 1 rfl).trans f1
      replace f2 := (hR 2 rfl).trans f2
      replace Ar := Ar.rl hr
      replace Sr := Sr.rl hr
      replace Dr := Dr.rl hr
      replace HB := HB.trans (hBt.below HB.size (UpOld.all (bx := [⟨N2, some 3, 0, 3, .agg #[.bool false, .slice none 0 0], some (4, 6, 2), []⟩]) ⟨someNe, trivial⟩))
      clear hBt hr hR hP hX hU
      refine wp_seq ?_
      refine wp_seq ?_
      refine region4 [some 7, some 8, some 9] [Eqs (.agg #[.bool n_3, .slice a_3 r_3.length c_3]), Eqs (.int .i64 (Int.sign qr)), Eqs (.bool (decide ((Int.sign qr) = 0)))] [] [] (by kernel_rfl) hn rfl (by kernel_rfl) (by kernel_rfl) (by kernel_rfl) (by kernel_rfl) (by kernel_rfl) (by kernel_rfl) ⟨Eqs.mono4 _, Eqs.mono4 _, Eqs.mono4 _, trivial⟩ ok_nil (IsOld.all (bx := []) trivial) (DisOld.all (bx := []) trivial) ?_ ?_
      · exact ⟨.norm 7 rfl rfl rfl (fun a_ w_ hn_ hBt hr hR hD hO hS => op_loadv N2ok ((hR 3 rfl).trans f3) (b3.keep hBt trivial)),
          .norm 8 rfl rfl rfl (fun a_ w_ hn_ hBt hr hR hD hO hS => op_nsign (outn_eq (show a_.eval (.tmp 7) = .agg #[.bool n_3, .slice a_3 r_3.length c_3] from hD 0 rfl) (G3.rl hr) l3)),
          .norm 9 rfl rfl rfl (fun a_ w_ hn_ hBt hr hR hD hO hS => op_eqlk (show a_.eval (.tmp 8) = .int .i64 (Int.sign qr) from hD 1 rfl)),
          trivial⟩
      · intro a4 w4 gs4 hn4 hd4 hBt hr hR hP hX hU
        replace hn := hn4; replace hd := hd4.trans hd
        replace b1 := b1.keep hBt trivial
        replace b2 := b2.keep hBt trivial
        replace b3 := b3.keep hBt trivial
        replace f1 := (hR 1 rfl).trans f1
        replace f2 := (hR 2 rfl).trans f2
        replace f3 := (hR 3 rfl).trans f3
        have e9 : a4.eval (.tmp 9) = .bool (decide ((Int.sign qr) = 0)) := hP 2 (by decide)
        have f9 := e9
        replace Ar := Ar.rl hr
        replace Sr := Sr.rl hr
        replace Dr := Dr.rl hr
        replace G3 := G3.rl hr
        replace HB := HB.trans (hBt.below HB.size (UpOld.all (bx := []) trivial))
        clear hBt hr hR hP hX hU
        refine wp_cond_split f9 (fun hc9 => ?_) (fun hc9 => ?_)
        · skip
          have hq0 : qr = 0 := Int.sign_eq_zero_iff_zero.1 (of_decide_eq_true hc9)
          refine wp_seq ?_
          refine region4 [some 10, none] [OutQ (0) (1) (5), (fun _ _ => True)] [⟨Q4, none, (gs1 1), 2, .agg #[.bool false, .slice none 0 0, .bool false, .slice none 0 0], some (1, 10, 0), []⟩] [] (by kernel_rfl) hn rfl (by kernel_rfl) (by kernel_rfl) (by kernel_rfl) (by kernel_rfl) (by kernel_rfl) (by kernel_rfl) ⟨OutQ.mono4 _ _ _, True.mono4, trivial⟩ (ok_cons Q4ok ok_nil) (IsOld.all (bx := [⟨Q4, none, (gs1 1), 2, .agg #[.bool false, .slice none 0 0, .bool false, .slice none 0 0], some (1, 10, 0), []⟩]) ⟨fun _ => ⟨f2, b2⟩, trivial⟩) (DisOld.all (bx := [⟨Q4, none, (gs1 1), 2, .agg #[.bool false, .slice none 0 0, .bool false, .slice none 0 0], some (1, 10, 0), []⟩]) ⟨fun _ => trivial, trivial⟩) ?_ ?_
          · exact ⟨.norm 10 rfl rfl rfl (fun a_ w_ hn_ hBt hr hR hD hO hS => op_qzero),
              .store 0 _ _ _ rfl rfl rfl rfl rfl rfl rfl (fun ia h => by cases h) rfl rfl rfl OutQ.cs,
              trivial⟩
          · intro a5 w5 gs5 hn5 hd5 hBt hr hR hP hX hU
            replace hn := hn5; replace hd := hd5.trans hd
            replace b1 := b1.keep hBt ⟨fun _ => ne1_2.symm, trivial⟩
            replace b3 := b3.keep hBt ⟨fun _ => ne2_3, trivial⟩
            obtain ⟨n_6, a_6, c_6, r_6, o_6, b_6, d_6, s_6, e10, G6, K6, l6, k6⟩ : OutQ (0) (1) (5) (a5.eval (.tmp 10)) w5 := hP 0 (by decide)
            have b2 : BoxV Q4 w5 ((gs1 1)) (.agg #[.bool n_6, .slice a_6 r_6.length c_6, .bool o_6, .slice b_6 s_6.length d_6]) := boxv_old ((hX 0 _ rfl).2.1 rfl) (hX 0 _ rfl).2.2.2 e10
            replace f2 : a5.eval (.tmp 2) = _ := (hR 2 rfl).trans f2
            replace f1 := (hR 1 rfl).trans f1
            replace f3 := (hR 3 rfl).trans f3
            replace Ar := Ar.rl hr
            replace Sr := Sr.rl hr
            replace Dr := Dr.rl hr
            replace G3 := G3.rl hr
            replace HB := HB.trans (hBt.below HB.size (UpOld.all (bx := [⟨Q4, none, (gs1 1), 2, .agg #[.bool false, .slice none 0 0, .bool false, .slice none 0 0], some (1, 10, 0), []⟩]) ⟨fun _ => u2, trivial⟩))
            clear hBt hr hR hP hX hU
            refine wp_ret ?_
            repeat (first | refine then_ret ?_ | refine scope_ret ?_ | refine block_ret ?_)
            exact bodyPost_ret (v := .agg #[.bool n_6, .slice a_6 r_6.length c_6, .bool o_6, .slice b_6 s_6.length d_6]) (res_c rfl f2 (lv_Q4 b2)) hd ⟨_, rfl, OutQ.to (outq_eq rfl G6 K6 l6 k6) (read_zero hq0).1 (read_zero hq0).2 (by omega), HB⟩
        · skip
          have hq0 : qr ≠ 0 := fun e => of_decide_eq_false hc9 (Int.sign_eq_zero_iff_zero.2 e)
          refine wp_skip ?_
          refine wp_seq ?_
          refine region4 [some 11, some 12, some 13, some 14, some 15, none] [Eqs (.pointer (some ⟨gs1 0, 0, none⟩)), Eqs (.agg #[.bool nr, .slice ar mr cr]), OutN (pr) (3 * (Br)), Eqs (.agg #[.bool n_3, .slice a_3 r_3.length c_3]), OutQ ((nm pr qr)) ((dn pr qr)) ((3 * (Br)) + (3 * (Br))), (fun _ _ => True)] [⟨Q4, none, (gs1 1), 2, .agg #[.bool false, .slice none 0 0, .bool false, .slice none 0 0], some (5, 15, 4), []⟩] [] (by kernel_rfl) hn rfl (by kernel_rfl) (by kernel_rfl) (by kernel_rfl) (by kernel_rfl) (by kernel_rfl) (by kernel_rfl) ⟨Eqs.mono4 _, Eqs.mono4 _, OutN.mono4 _ _, Eqs.mono4 _, OutQ.mono4 _ _ _, True.mono4, trivial⟩ (ok_cons Q4ok ok_nil) (IsOld.all (bx := [⟨Q4, none, (gs1 1), 2, .agg #[.bool false, .slice none 0 0, .bool false, .slice none 0 0], some (5, 15, 4), []⟩]) ⟨fun _ => ⟨f2, b2⟩, trivial⟩) (DisOld.all (bx := [⟨Q4, none, (gs1 1), 2, .agg #[.bool false, .slice none 0 0, .bool false, .slice none 0 0], some (5, 15, 4), []⟩]) ⟨fun _ => trivial, trivial⟩) ?_ ?_
          · exact ⟨.norm 11 rfl rfl rfl (fun a_ w_ hn_ hBt hr hR hD hO hS => op_faR fa_num ((hR 1 rfl).trans f1)),
              .norm 12 rfl rfl rfl (fun a_ w_ hn_ hBt hr hR hD hO hS => op_ldnum (show a_.eval (.tmp 11) = .pointer (some ⟨gs1 0, 0, none⟩) from hD 0 rfl) (b1.keep hBt ⟨fun _ => ne1_2.symm, trivial⟩)),
              .norm 13 rfl rfl rfl (fun a_ w_ hn_ hBt hr hR hD hO hS => op_nof (L := Br) (isw_eq (show a_.eval (.tmp 12) = .agg #[.bool nr, .slice ar mr cr] from hD 1 rfl) (Ar.rl hr) Lr) (by omega)),
              .norm 14 rfl rfl rfl (fun a_ w_ hn_ hBt hr hR hD hO hS => op_loadv N2ok ((hR 3 rfl).trans f3) (b3.keep hBt ⟨fun _ => ne2_3, trivial⟩)),
              .norm 15 rfl rfl rfl (fun a_ w_ hn_ hBt hr hR hD hO hS => op_qmake (Bx := 3 * (Br)) (By := 3 * (Br)) (show OutN (pr) (3 * (Br)) (a_.eval (.tmp 13)) w_ from hD 2 rfl) (outn_eq (show a_.eval (.tmp 14) = .agg #[.bool n_3, .slice a_3 r_3.length c_3] from hD 3 rfl) (G3.rl hr) l3) (by omega) hq0),
              .store 0 _ _ _ rfl rfl rfl rfl rfl rfl rfl (fun ia h => by cases h) rfl rfl rfl OutQ.cs,
              trivial⟩
          · intro a7 w7 gs7 hn7 hd7 hBt hr hR hP hX hU
            replace hn := hn7; replace hd := hd7.trans hd
            obtain ⟨n_8, a_8, c_8, r_8, o_8, b_8, d_8, s_8, e15, G8, K8, l8, k8⟩ : OutQ ((nm pr qr)) ((dn pr qr)) ((3 * (Br)) + (3 * (Br))) (a7.eval (.tmp 15)) w7 := hP 4 (by decide)
            have b2 : BoxV Q4 w7 ((gs1 1)) (.agg #[.bool n_8, .slice a_8 r_8.length c_8, .bool o_8, .slice b_8 s_8.length d_8]) := boxv_old ((hX 0 _ rfl).2.1 rfl) (hX 0 _ rfl).2.2.2 e15
            replace f2 : a7.eval (.tmp 2) = _ := (hR 2 rfl).trans f2
            replace Ar := Ar.rl hr
            replace Sr := Sr.rl hr
            replace Dr := Dr.rl hr
            replace G3 := G3.rl hr
            replace HB := HB.trans (hBt.below HB.size (UpOld.all (bx := [⟨Q4, none, (gs1 1), 2, .agg #[.bool false, .slice none 0 0, .bool false, .slice none 0 0], some (5, 15, 4), []⟩]) ⟨fun _ => u2, trivial⟩))
            clear hBt hr hR hP hX hU
            refine wp_ret ?_
            repeat (first | refine then_ret ?_ | refine scope_ret ?_ | refine block_ret ?_)
            exact bodyPost_ret (v := .agg #[.bool n_8, .slice a_8 r_8.length c_8, .bool o_8, .slice b_8 s_8.length d_8]) (res_c rfl f2 (lv_Q4 b2)) hd ⟨_, rfl, OutQ.to (outq_eq rfl G8 K8 l8 k8) (read_some hq0).1 (read_some hq0).2 (by omega), HB⟩
theorem has_qread : Has Tryd.prog 64 := by unfold Has; kernel_rfl
theorem op_qread {dst : Option Tmp} {ty : TypeId} {pos : String} {after : Array Edge} {guard : Option (Nat × Bool)} {a : Act} {w : World} {ats : Array TypeId} {i : Nat} {Br : Nat} {pr qr : Int} (Hr : IsR pr qr Br (a.eval (.tmp i)) w) (hL : Br ≤ 10000) :
    Does Tryd.prog { dst, op := .call { callee := .value (.func 64), args := #[.tmp i], argTypes := ats }, type := ty, pos, after, guard } a.eval w fun v w' => Below w.heap.size w w' ∧ (OutQ (nm (tp pr qr) (tq qr)) (dn (tp pr qr) (tq qr)) (6 * Br + 10)) v w' := by
  obtain ⟨nr, ar, mr, cr, rs, br, kr, dr, rt, er, Ar, Sr, Vr, Lr, Mr⟩ := Hr
  refine does_call has_qread _ (by simp only [List.map_toArray, List.map_cons, List.map_nil, er]) ((qread_z w Br _ _ _ _ _ _ Ar Lr _ _ _ _ _ Sr Vr Mr hL).mono ?_)
  rintro e w' ⟨v, rfl, h1, hb⟩
  exact ⟨_, rfl, hb, h1⟩
end Lm
end Go.Proofs.YtdiiankcjgoecaaDoor

namespace Go.Proofs.YtdiiankcjgoecaaDoor
namespace Lm
open Go Go.RowKit
section
variable {dst : Option Tmp} {ty : TypeId} {pos : String} {after : Array Edge} {guard : Option (Nat × Bool)} {a : Act} {w : World} {ats : Array TypeId} {i k g : Nat} {x z u v : Int} {L : Nat}
theorem op_geqk (h1 : a.eval (.tmp i) = .int .i64 u) :
    Does Tryd.prog { dst, op := .binOp .geq 3 (.tmp i) (.const (.int .i64 v)) 3, type := ty, pos, after, guard } a.eval w fun v' w' => Below w.heap.size w w' ∧ Eqs (.bool (decide (v ≤ u))) v' w' := by
  refine does_bin (v := .bool (decide (v ≤ u))) ?_ ?_ ⟨Below.refl _ _, rfl⟩
  · rw [h1]; simp [go_sem, Act.eval]
  · rw [h1]; simp [go_sem, Act.eval]
end
end Lm
end Go.Proofs.YtdiiankcjgoecaaDoor

