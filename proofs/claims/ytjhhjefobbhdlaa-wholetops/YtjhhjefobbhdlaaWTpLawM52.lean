/-
  The document's own whole numbers. How many limbs the document's own numbers have. Whole numbers as ints. The document's own numbers as ints. WholeReads answers true, whatever int and number it is handed.
-/
import Derived.Test.YtjhhjefobbhdlaaWTpLawM51
import Derived.Test.YtjhhjefobbhdlaaWTpLawM50
import Derived.Test.YtjhhjefobbhdlaaWB
import Derived.Deep.LoopGhost
import Derived.Test.YtjhhjefobbhdlaaWH
namespace Go.Proofs.Ytjhhjefobbhdlaa
namespace Lm
open Go Go.RowKit

theorem ncmp_lt {x y : Int} (h : Int.sign x < Int.sign y) : (-1 : Int) = cmpI x y := by
  refine (cmpI_lt ?_).symm
  rcases Int.lt_trichotomy x 0 with a | a | a <;> rcases Int.lt_trichotomy y 0 with b | b | b <;> simp_all [Int.sign_eq_neg_one_of_neg, Int.sign_eq_one_of_pos] <;> omega
theorem ncmp_gt {x y : Int} (hn : ¬ Int.sign x = Int.sign y) (h : ¬ Int.sign x < Int.sign y) : (1 : Int) = cmpI x y := by
  refine (cmpI_gt ?_).symm
  rcases Int.lt_trichotomy x 0 with a | a | a <;> rcases Int.lt_trichotomy y 0 with b | b | b <;> simp_all [Int.sign_eq_neg_one_of_neg, Int.sign_eq_one_of_pos] <;> omega
theorem cmpI_same {a b c d : Int} (h1 : a < b ↔ c < d) (h2 : a = b ↔ c = d) : cmpI a b = cmpI c d := by
  rcases Int.lt_trichotomy a b with h | h | h
  · rw [cmpI_lt h, cmpI_lt (h1.1 h)]
  · rw [cmpI_eq h, cmpI_eq (h2.1 h)]
  · rw [cmpI_gt h, cmpI_gt (by omega)]
theorem ncmp_neg {x y : Int} (hs : Int.sign x = Int.sign y) (hx : x < 0) : cmpI (y.natAbs : Int) (x.natAbs : Int) = cmpI x y := by
  have hy : y < 0 := by
    rw [Int.sign_eq_neg_one_of_neg hx] at hs
    exact Int.sign_eq_neg_one_iff_neg.1 hs.symm
  exact cmpI_same (by omega) (by omega)
theorem ncmp_pos {x y : Int} (hs : Int.sign x = Int.sign y) (hx : ¬ x < 0) : cmpI (x.natAbs : Int) (y.natAbs : Int) = cmpI x y := by
  have hy : ¬ y < 0 := by
    intro hy
    rw [Int.sign_eq_neg_one_of_neg hy] at hs
    exact hx (Int.sign_eq_neg_one_iff_neg.1 hs)
  exact cmpI_same (by omega) (by omega)
section
variable {dst : Option Tmp} {ty : TypeId} {pos : String} {after : Array Edge} {guard : Option (Nat × Bool)} {a : Act} {w : World} {ats : Array TypeId} {i j : Nat} {x y u v : Int} {L1 L2 : Nat}
theorem has_nadd : Has Try.prog 56 := by unfold Has; kernel_rfl
theorem op_nadd (h1 : OutN x L1 (a.eval (.tmp i)) w) (h2 : OutN y L2 (a.eval (.tmp j)) w) (hL : L1 ≤ 400000) (hL' : L2 ≤ 400000) :
    Does Try.prog { dst, op := .call { callee := .value (.func 56), args := #[.tmp i, .tmp j], argTypes := ats }, type := ty, pos, after, guard } a.eval w fun v w' => Below w.heap.size w w' ∧ OutN (x + y) (L1 + L2 + 1) v w' := by
  obtain ⟨ng, ao, cap, rs, e1, W, l⟩ := h1
  obtain ⟨mg, bo, dap, ss, e2, W', l'⟩ := h2
  refine does_call has_nadd _ (by simp only [List.map_toArray, List.map_cons, List.map_nil, e1, e2]) ((Dm.nadd_g w ng ao cap rs _ W mg bo dap ss _ W' (by omega) (by omega)).mono ?_)
  rintro e w' ⟨ng, ao, cap, rs, rfl, G, l, hb⟩
  exact ⟨_, rfl, hb, _, _, _, _, rfl, G, by omega⟩
theorem has_nsub : Has Try.prog 45 := by unfold Has; kernel_rfl
theorem op_nsub (h1 : OutN x L1 (a.eval (.tmp i)) w) (h2 : OutN y L2 (a.eval (.tmp j)) w) (hL : L1 ≤ 400000) (hL' : L2 ≤ 400000) :
    Does Try.prog { dst, op := .call { callee := .value (.func 45), args := #[.tmp i, .tmp j], argTypes := ats }, type := ty, pos, after, guard } a.eval w fun v w' => Below w.heap.size w w' ∧ OutN (x - y) (L1 + L2 + 1) v w' := by
  obtain ⟨ng, ao, cap, rs, e1, W, l⟩ := h1
  obtain ⟨mg, bo, dap, ss, e2, W', l'⟩ := h2
  refine does_call has_nsub _ (by simp only [List.map_toArray, List.map_cons, List.map_nil, e1, e2]) ((Dm.nsub_g w ng ao cap rs _ W mg bo dap ss _ W' (by omega) (by omega)).mono ?_)
  rintro e w' ⟨ng, ao, cap, rs, rfl, G, l, hb⟩
  exact ⟨_, rfl, hb, _, _, _, _, rfl, G, by omega⟩
theorem has_nmul : Has Try.prog 57 := by unfold Has; kernel_rfl
theorem op_nmul (h1 : OutN x L1 (a.eval (.tmp i)) w) (h2 : OutN y L2 (a.eval (.tmp j)) w) (hL : L1 ≤ 400000) (hL' : L2 ≤ 400000) :
    Does Try.prog { dst, op := .call { callee := .value (.func 57), args := #[.tmp i, .tmp j], argTypes := ats }, type := ty, pos, after, guard } a.eval w fun v w' => Below w.heap.size w w' ∧ OutN (x * y) (L1 + L2 + 1) v w' := by
  obtain ⟨ng, ao, cap, rs, e1, W, l⟩ := h1
  obtain ⟨mg, bo, dap, ss, e2, W', l'⟩ := h2
  refine does_call has_nmul _ (by simp only [List.map_toArray, List.map_cons, List.map_nil, e1, e2]) ((Dm.nmul_g w ng ao cap rs _ W mg bo dap ss _ W' (by omega) (by omega)).mono ?_)
  rintro e w' ⟨ng, ao, cap, rs, rfl, G, l, hb⟩
  exact ⟨_, rfl, hb, _, _, _, _, rfl, G, by omega⟩
theorem has_nsize : Has Try.prog 73 := by unfold Has; kernel_rfl
theorem op_nsize (h1 : OutN x L1 (a.eval (.tmp i)) w) (h2 : OutN y L2 (a.eval (.tmp j)) w) :
    Does Try.prog { dst, op := .call { callee := .value (.func 73), args := #[.tmp i, .tmp j], argTypes := ats }, type := ty, pos, after, guard } a.eval w fun v w' => Below w.heap.size w w' ∧ Eqs (.int .i64 (cmpI (x.natAbs : Int) (y.natAbs : Int))) v w' := by
  obtain ⟨ng, ao, cap, rs, e1, W, l⟩ := h1
  obtain ⟨mg, bo, dap, ss, e2, W', l'⟩ := h2
  refine does_call has_nsize _ (by simp only [List.map_toArray, List.map_cons, List.map_nil, e1, e2]) ((Dm.size_any w ng mg ao bo cap dap rs ss _ _ W.1 W'.1).mono ?_)
  rintro e w' ⟨rfl, hb⟩
  exact ⟨_, rfl, hb, rfl⟩
theorem op_neqi (h1 : a.eval (.tmp i) = .int .i64 u) (h2 : a.eval (.tmp j) = .int .i64 v) :
    Does Try.prog { dst, op := .binOp .neq 3 (.tmp i) (.tmp j) 3, type := ty, pos, after, guard } a.eval w fun v' w' => Below w.heap.size w w' ∧ Eqs (.bool (!decide (u = v))) v' w' := by
  refine does_bin (v := .bool (!decide (u = v))) ?_ ?_ ⟨Below.refl _ _, rfl⟩
  · rw [h1, h2]; simp [go_sem]
  · rw [h1, h2]; simp [go_sem]; rfl
theorem op_lssi (h1 : a.eval (.tmp i) = .int .i64 u) (h2 : a.eval (.tmp j) = .int .i64 v) :
    Does Try.prog { dst, op := .binOp .lss 3 (.tmp i) (.tmp j) 3, type := ty, pos, after, guard } a.eval w fun v' w' => Below w.heap.size w w' ∧ Eqs (.bool (decide (u < v))) v' w' := by
  refine does_bin (v := .bool (decide (u < v))) ?_ ?_ ⟨Below.refl _ _, rfl⟩
  · rw [h1, h2]; simp [go_sem]
  · rw [h1, h2]; simp [go_sem]
end

set_option maxRecDepth 20000 in
set_option maxHeartbeats 2000000 in
theorem ncmp_z (w : World) (Bx : Nat) (nx : Bool) (ax : Option Addr) (cx : Nat) (xs : List Int) (zx : Int) (Gx : Dm.Wh w nx ax cx xs zx) (Lx : xs.length ≤ Bx) (By : Nat) (ny : Bool) (ay : Option Addr) (cy : Nat) (ys : List Int) (zy : Int) (Gy : Dm.Wh w ny ay cy ys zy) (Ly : ys.length ≤ By)  :
    Calls Try.prog 47 #[.agg #[.bool nx, .slice ax xs.length cx], .agg #[.bool ny, .slice ay ys.length cy]] w fun e w' => ∃ v, e = .returned v ∧ (Eqs (.int .i64 (cmpI zx zy))) v w' ∧ Below w.heap.size w w' := by
  go_enter Try.func47, Try.ntmps47
  generalize hA : (Act.mk _ _) = aa
  have hn : aa.tmps.size = 23 := by rw [← hA]; rfl
  have hd : aa.defers = [] := by rw [← hA]
  have f0 : aa.eval (.tmp 0) = .agg #[.bool nx, .slice ax xs.length cx] := by rw [← hA]; rfl
  have f1 : aa.eval (.tmp 1) = .agg #[.bool ny, .slice ay ys.length cy] := by rw [← hA]; rfl
  clear hA
  have HB : Below w.heap.size w w := Below.refl _ _
  refine wp_seq ?_
  refine region4 [some 2, some 3, some 4] [(fun _ _ => True), (fun _ _ => True), Eqs ((.int .i64 0))] [⟨N2, some 0, 0, 2, .agg #[.bool nx, .slice ax xs.length cx], none, []⟩, ⟨N2, some 1, 0, 3, .agg #[.bool ny, .slice ay ys.length cy], none, []⟩] [] (by kernel_rfl) hn rfl (by kernel_rfl) (by kernel_rfl) (by kernel_rfl) (by kernel_rfl) (by kernel_rfl) (by kernel_rfl) ⟨True.mono4, True.mono4, Eqs.mono4 _, trivial⟩ (ok_cons N2ok (ok_cons N2ok ok_nil)) (IsOld.all (bx := [⟨N2, some 0, 0, 2, .agg #[.bool nx, .slice ax xs.length cx], none, []⟩, ⟨N2, some 1, 0, 3, .agg #[.bool ny, .slice ay ys.length cy], none, []⟩]) ⟨someNe, someNe, trivial⟩) (DisOld.all (bx := [⟨N2, some 0, 0, 2, .agg #[.bool nx, .slice ax xs.length cx], none, []⟩, ⟨N2, some 1, 0, 3, .agg #[.bool ny, .slice ay ys.length cy], none, []⟩]) ⟨someNe, someNe, trivial⟩) ?_ ?_
  · exact ⟨.alloc 0 _ rfl rfl (.inr ⟨_, rfl, n2_cs, fun a_ hR => (hR 0 rfl).trans f0⟩) rfl rfl rfl rfl rfl,
      .alloc 1 _ rfl rfl (.inr ⟨_, rfl, n2_cs, fun a_ hR => (hR 1 rfl).trans f1⟩) rfl rfl rfl rfl rfl,
      .norm 4 rfl rfl rfl (fun a_ w_ hn_ hBt hr hR hD hO hS => op_assign rfl),
      trivial⟩
  · intro a1 w1 gs1 hn1 hd1 hBt hr hR hP hX hU
    replace hn := hn1; replace hd := hd1.trans hd
    have b2 : BoxV N2 w1 (gs1 0) (.agg #[.bool nx, .slice ax xs.length cx]) := (hX 0 _ rfl).2.2.2
    have f2 := (hX 0 _ rfl).1
    have u2 : w.heap.size ≤ gs1 0 := Nat.le_trans HB.size ((hX 0 _ rfl).2.2.1 (by simp))
    have b3 : BoxV N2 w1 (gs1 1) (.agg #[.bool ny, .slice ay ys.length cy]) := (hX 1 _ rfl).2.2.2
    have f3 := (hX 1 _ rfl).1
    have u3 : w.heap.size ≤ gs1 1 := Nat.le_trans HB.size ((hX 1 _ rfl).2.2.1 (by simp))
    have e4 : a1.eval (.tmp 4) = (.int .i64 0) := hP 2 (by decide)
    have f4 := e4
    replace Gx := Gx.rl hr
    replace Gy := Gy.rl hr
    replace HB := HB.trans (hBt.below HB.size (UpOld.all (bx := [⟨N2, some 0, 0, 2, .agg #[.bool nx, .slice ax xs.length cx], none, []⟩, ⟨N2, some 1, 0, 3, .agg #[.bool ny, .slice ay ys.length cy], none, []⟩]) ⟨someNe, someNe, trivial⟩))
    clear hBt hr hR hP hX hU
    refine wp_seq ?_
    refine wp_seq ?_
    refine region4 [some 5, some 6, some 7, some 8, some 9] [Eqs (.agg #[.bool nx, .slice ax xs.length cx]), Eqs (.int .i64 (Int.sign zx)), Eqs (.agg #[.bool ny, .slice ay ys.length cy]), Eqs (.int .i64 (Int.sign zy)), Eqs (.bool (!decide ((Int.sign zx) = (Int.sign zy))))] [] [] (by kernel_rfl) hn rfl (by kernel_rfl) (by kernel_rfl) (by kernel_rfl) (by kernel_rfl) (by kernel_rfl) (by kernel_rfl) ⟨Eqs.mono4 _, Eqs.mono4 _, Eqs.mono4 _, Eqs.mono4 _, Eqs.mono4 _, trivial⟩ ok_nil (IsOld.all (bx := []) trivial) (DisOld.all (bx := []) trivial) ?_ ?_
    · exact ⟨.norm 5 rfl rfl rfl (fun a_ w_ hn_ hBt hr hR hD hO hS => op_loadv N2ok ((hR 2 rfl).trans f2) (b2.keep hBt trivial)),
        .norm 6 rfl rfl rfl (fun a_ w_ hn_ hBt hr hR hD hO hS => op_nsign (outn_eq (show a_.eval (.tmp 5) = .agg #[.bool nx, .slice ax xs.length cx] from hD 0 rfl) (Gx.rl hr) Lx)),
        .norm 7 rfl rfl rfl (fun a_ w_ hn_ hBt hr hR hD hO hS => op_loadv N2ok ((hR 3 rfl).trans f3) (b3.keep hBt trivial)),
        .norm 8 rfl rfl rfl (fun a_ w_ hn_ hBt hr hR hD hO hS => op_nsign (outn_eq (show a_.eval (.tmp 7) = .agg #[.bool ny, .slice ay ys.length cy] from hD 2 rfl) (Gy.rl hr) Ly)),
        .norm 9 rfl rfl rfl (fun a_ w_ hn_ hBt hr hR hD hO hS => op_neqi (show a_.eval (.tmp 6) = .int .i64 (Int.sign zx) from hD 1 rfl) (show a_.eval (.tmp 8) = .int .i64 (Int.sign zy) from hD 3 rfl)),
        trivial⟩
    · intro a2 w2 gs2 hn2 hd2 hBt hr hR hP hX hU
      replace hn := hn2; replace hd := hd2.trans hd
      replace b2 := b2.keep hBt trivial
      replace b3 := b3.keep hBt trivial
      replace f2 := (hR 2 rfl).trans f2
      replace f3 := (hR 3 rfl).trans f3
      replace f4 := (hR 4 rfl).trans f4
      have e9 : a2.eval (.tmp 9) = .bool (!decide ((Int.sign zx) = (Int.sign zy))) := hP 4 (by decide)
      have f9 := e9
      replace Gx := Gx.rl hr
      replace Gy := Gy.rl hr
      replace HB := HB.trans (hBt.below HB.size (UpOld.all (bx := []) trivial))
      clear hBt hr hR hP hX hU
      refine wp_cond_split f9 (fun hc9 => ?_) (fun hc9 => ?_)
      · skip
        refine wp_seq ?_
        refine wp_seq ?_
        refine region4 [some 10, some 11, some 12, some 13, some 14] [Eqs (.agg #[.bool nx, .slice ax xs.length cx]), Eqs (.int .i64 (Int.sign zx)), Eqs (.agg #[.bool ny, .slice ay ys.length cy]), Eqs (.int .i64 (Int.sign zy)), Eqs (.bool (decide ((Int.sign zx) < (Int.sign zy))))] [] [] (by kernel_rfl) hn rfl (by kernel_rfl) (by kernel_rfl) (by kernel_rfl) (by kernel_rfl) (by kernel_rfl) (by kernel_rfl) ⟨Eqs.mono4 _, Eqs.mono4 _, Eqs.mono4 _, Eqs.mono4 _, Eqs.mono4 _, trivial⟩ ok_nil (IsOld.all (bx := []) trivial) (DisOld.all (bx := []) trivial) ?_ ?_
        · exact ⟨.norm 10 rfl rfl rfl (fun a_ w_ hn_ hBt hr hR hD hO hS => op_loadv N2ok ((hR 2 rfl).trans f2) (b2.keep hBt trivial)),
            .norm 11 rfl rfl rfl (fun a_ w_ hn_ hBt hr hR hD hO hS => op_nsign (outn_eq (show a_.eval (.tmp 10) = .agg #[.bool nx, .slice ax xs.length cx] from hD 0 rfl) (Gx.rl hr) Lx)),
            .norm 12 rfl rfl rfl (fun a_ w_ hn_ hBt hr hR hD hO hS => op_loadv N2ok ((hR 3 rfl).trans f3) (b3.keep hBt trivial)),
            .norm 13 rfl rfl rfl (fun a_ w_ hn_ hBt hr hR hD hO hS => op_nsign (outn_eq (show a_.eval (.tmp 12) = .agg #[.bool ny, .slice ay ys.length cy] from hD 2 rfl) (Gy.rl hr) Ly)),
            .norm 14 rfl rfl rfl (fun a_ w_ hn_ hBt hr hR hD hO hS => op_lssi (show a_.eval (.tmp 11) = .int .i64 (Int.sign zx) from hD 1 rfl) (show a_.eval (.tmp 13) = .int .i64 (Int.sign zy) from hD 3 rfl)),
            trivial⟩
        · intro a3 w3 gs3 hn3 hd3 hBt hr hR hP hX hU
          replace hn := hn3; replace hd := hd3.trans hd
          replace b2 := b2.keep hBt trivial
          replace b3 := b3.keep hBt trivial
          replace f2 := (hR 2 rfl).trans f2
          replace f3 := (hR 3 rfl).trans f3
          replace f4 := (hR 4 rfl).trans f4
          have e14 : a3.eval (.tmp 14) = .bool (decide ((Int.sign zx) < (Int.sign zy))) := hP 4 (by decide)
          have f14 := e14
          replace Gx := Gx.rl hr
          replace Gy := Gy.rl hr
          replace HB := HB.trans (hBt.below HB.size (UpOld.all (bx := []) trivial))
          clear hBt hr hR hP hX hU
          refine wp_cond_split f14 (fun hc14 => ?_) (fun hc14 => ?_)
          · skip
            refine wp_seq ?_
            refine region4 [some 4] [Eqs ((.int .i64 (-1)))] [] [] (by kernel_rfl) hn rfl (by kernel_rfl) (by kernel_rfl) (by kernel_rfl) (by kernel_rfl) (by kernel_rfl) (by kernel_rfl) ⟨Eqs.mono4 _, trivial⟩ ok_nil (IsOld.all (bx := []) trivial) (DisOld.all (bx := []) trivial) ?_ ?_
            · exact ⟨.norm 4 rfl rfl rfl (fun a_ w_ hn_ hBt hr hR hD hO hS => op_assign rfl),
                trivial⟩
            · intro a4 w4 gs4 hn4 hd4 hBt hr hR hP hX hU
              replace hn := hn4; replace hd := hd4.trans hd
              replace b2 := b2.keep hBt trivial
              replace b3 := b3.keep hBt trivial
              replace f2 := (hR 2 rfl).trans f2
              replace f3 := (hR 3 rfl).trans f3
              have e4 : a4.eval (.tmp 4) = (.int .i64 (-1)) := hP 0 (by decide)
              have f4 := e4
              replace Gx := Gx.rl hr
              replace Gy := Gy.rl hr
              replace HB := HB.trans (hBt.below HB.size (UpOld.all (bx := []) trivial))
              clear hBt hr hR hP hX hU
              refine wp_ret ?_
              repeat (first | refine then_ret ?_ | refine scope_ret ?_ | refine block_ret ?_)
              exact bodyPost_ret (v := .int .i64 (-1)) (res_t rfl f4) hd ⟨_, rfl, congrArg (Value.int .i64) (ncmp_lt (of_decide_eq_true hc14)), HB⟩
          · skip
            refine wp_skip ?_
            refine wp_seq ?_
            refine region4 [some 4] [Eqs ((.int .i64 1))] [] [] (by kernel_rfl) hn rfl (by kernel_rfl) (by kernel_rfl) (by kernel_rfl) (by kernel_rfl) (by kernel_rfl) (by kernel_rfl) ⟨Eqs.mono4 _, trivial⟩ ok_nil (IsOld.all (bx := []) trivial) (DisOld.all (bx := []) trivial) ?_ ?_
            · exact ⟨.norm 4 rfl rfl rfl (fun a_ w_ hn_ hBt hr hR hD hO hS => op_assign rfl),
                trivial⟩
            · intro a5 w5 gs5 hn5 hd5 hBt hr hR hP hX hU
              replace hn := hn5; replace hd := hd5.trans hd
              replace b2 := b2.keep hBt trivial
              replace b3 := b3.keep hBt trivial
              replace f2 := (hR 2 rfl).trans f2
              replace f3 := (hR 3 rfl).trans f3
              have e4 : a5.eval (.tmp 4) = (.int .i64 1) := hP 0 (by decide)
              have f4 := e4
              replace Gx := Gx.rl hr
              replace Gy := Gy.rl hr
              replace HB := HB.trans (hBt.below HB.size (UpOld.all (bx := []) trivial))
              clear hBt hr hR hP hX hU
              refine wp_ret ?_
              repeat (first | refine then_ret ?_ | refine scope_ret ?_ | refine block_ret ?_)
              exact bodyPost_ret (v := .int .i64 1) (res_t rfl f4) hd ⟨_, rfl, congrArg (Value.int .i64) (ncmp_gt (by simpa using hc9) (of_decide_eq_false hc14)), HB⟩
      · skip
        refine wp_skip ?_
        refine wp_seq ?_
        refine wp_seq ?_
        refine region4 [some 15, some 16] [Eqs (.pointer (some ⟨gs1 0, 0, none⟩)), Eqs (.bool nx)] [] [] (by kernel_rfl) hn rfl (by kernel_rfl) (by kernel_rfl) (by kernel_rfl) (by kernel_rfl) (by kernel_rfl) (by kernel_rfl) ⟨Eqs.mono4 _, Eqs.mono4 _, trivial⟩ ok_nil (IsOld.all (bx := []) trivial) (DisOld.all (bx := []) trivial) ?_ ?_
        · exact ⟨.norm 15 rfl rfl rfl (fun a_ w_ hn_ hBt hr hR hD hO hS => op_faN fa_nneg ((hR 2 rfl).trans f2)),
            .norm 16 rfl rfl rfl (fun a_ w_ hn_ hBt hr hR hD hO hS => op_ldnneg (show a_.eval (.tmp 15) = .pointer (some ⟨gs1 0, 0, none⟩) from hD 0 rfl) (b2.keep hBt trivial)),
            trivial⟩
        · intro a6 w6 gs6 hn6 hd6 hBt hr hR hP hX hU
          replace hn := hn6; replace hd := hd6.trans hd
          replace b2 := b2.keep hBt trivial
          replace b3 := b3.keep hBt trivial
          replace f2 := (hR 2 rfl).trans f2
          replace f3 := (hR 3 rfl).trans f3
          replace f4 := (hR 4 rfl).trans f4
          have e16 : a6.eval (.tmp 16) = .bool nx := hP 1 (by decide)
          have f16 := e16
          replace Gx := Gx.rl hr
          replace Gy := Gy.rl hr
          replace HB := HB.trans (hBt.below HB.size (UpOld.all (bx := []) trivial))
          clear hBt hr hR hP hX hU
          refine wp_cond_split f16 (fun hc16 => ?_) (fun hc16 => ?_)
          · skip
            refine wp_seq ?_
            refine region4 [some 17, some 18, some 19, some 4] [Eqs (.agg #[.bool ny, .slice ay ys.length cy]), Eqs (.agg #[.bool nx, .slice ax xs.length cx]), Eqs (.int .i64 (cmpI ((zy).natAbs : Int) ((zx).natAbs : Int))), Eqs (.int .i64 (cmpI ((zy).natAbs : Int) ((zx).natAbs : Int)))] [] [] (by kernel_rfl) hn rfl (by kernel_rfl) (by kernel_rfl) (by kernel_rfl) (by kernel_rfl) (by kernel_rfl) (by kernel_rfl) ⟨Eqs.mono4 _, Eqs.mono4 _, Eqs.mono4 _, Eqs.mono4 _, trivial⟩ ok_nil (IsOld.all (bx := []) trivial) (DisOld.all (bx := []) trivial) ?_ ?_
            · exact ⟨.norm 17 rfl rfl rfl (fun a_ w_ hn_ hBt hr hR hD hO hS => op_loadv N2ok ((hR 3 rfl).trans f3) (b3.keep hBt trivial)),
                .norm 18 rfl rfl rfl (fun a_ w_ hn_ hBt hr hR hD hO hS => op_loadv N2ok ((hR 2 rfl).trans f2) (b2.keep hBt trivial)),
                .norm 19 rfl rfl rfl (fun a_ w_ hn_ hBt hr hR hD hO hS => op_nsize (outn_eq (show a_.eval (.tmp 17) = .agg #[.bool ny, .slice ay ys.length cy] from hD 0 rfl) (Gy.rl hr) Ly) (outn_eq (show a_.eval (.tmp 18) = .agg #[.bool nx, .slice ax xs.length cx] from hD 1 rfl) (Gx.rl hr) Lx)),
                .norm 4 rfl rfl rfl (fun a_ w_ hn_ hBt hr hR hD hO hS => op_assign (show a_.eval (.tmp 19) = .int .i64 (cmpI ((zy).natAbs : Int) ((zx).natAbs : Int)) from hD 2 rfl)),
                trivial⟩
            · intro a7 w7 gs7 hn7 hd7 hBt hr hR hP hX hU
              replace hn := hn7; replace hd := hd7.trans hd
              replace b2 := b2.keep hBt trivial
              replace b3 := b3.keep hBt trivial
              replace f2 := (hR 2 rfl).trans f2
              replace f3 := (hR 3 rfl).trans f3
              have e4 : a7.eval (.tmp 4) = .int .i64 (cmpI ((zy).natAbs : Int) ((zx).natAbs : Int)) := hP 3 (by decide)
              have f4 := e4
              replace Gx := Gx.rl hr
              replace Gy := Gy.rl hr
              replace HB := HB.trans (hBt.below HB.size (UpOld.all (bx := []) trivial))
              clear hBt hr hR hP hX hU
              refine wp_ret ?_
              repeat (first | refine then_ret ?_ | refine scope_ret ?_ | refine block_ret ?_)
              exact bodyPost_ret (v := .int .i64 (cmpI ((zy).natAbs : Int) ((zx).natAbs : Int))) (res_t rfl f4) hd ⟨_, rfl, congrArg (Value.int .i64) (ncmp_neg (by simpa using hc9) (by have h := Gx.2; rw [hc16] at h; exact of_decide_eq_true h.symm)), HB⟩
          · skip
            refine wp_skip ?_
            refine wp_seq ?_
            refine region4 [some 20, some 21, some 22, some 4] [Eqs (.agg #[.bool nx, .slice ax xs.length cx]), Eqs (.agg #[.bool ny, .slice ay ys.length cy]), Eqs (.int .i64 (cmpI ((zx).natAbs : Int) ((zy).natAbs : Int))), Eqs (.int .i64 (cmpI ((zx).natAbs : Int) ((zy).natAbs : Int)))] [] [] (by kernel_rfl) hn rfl (by kernel_rfl) (by kernel_rfl) (by kernel_rfl) (by kernel_rfl) (by kernel_rfl) (by kernel_rfl) ⟨Eqs.mono4 _, Eqs.mono4 _, Eqs.mono4 _, Eqs.mono4 _, trivial⟩ ok_nil (IsOld.all (bx := []) trivial) (DisOld.all (bx := []) trivial) ?_ ?_
            · exact ⟨.norm 20 rfl rfl rfl (fun a_ w_ hn_ hBt hr hR hD hO hS => op_loadv N2ok ((hR 2 rfl).trans f2) (b2.keep hBt trivial)),
                .norm 21 rfl rfl rfl (fun a_ w_ hn_ hBt hr hR hD hO hS => op_loadv N2ok ((hR 3 rfl).trans f3) (b3.keep hBt trivial)),
                .norm 22 rfl rfl rfl (fun a_ w_ hn_ hBt hr hR hD hO hS => op_nsize (outn_eq (show a_.eval (.tmp 20) = .agg #[.bool nx, .slice ax xs.length cx] from hD 0 rfl) (Gx.rl hr) Lx) (outn_eq (show a_.eval (.tmp 21) = .agg #[.bool ny, .slice ay ys.length cy] from hD 1 rfl) (Gy.rl hr) Ly)),
                .norm 4 rfl rfl rfl (fun a_ w_ hn_ hBt hr hR hD hO hS => op_assign (show a_.eval (.tmp 22) = .int .i64 (cmpI ((zx).natAbs : Int) ((zy).natAbs : Int)) from hD 2 rfl)),
                trivial⟩
            · intro a8 w8 gs8 hn8 hd8 hBt hr hR hP hX hU
              replace hn := hn8; replace hd := hd8.trans hd
              have e4 : a8.eval (.tmp 4) = .int .i64 (cmpI ((zx).natAbs : Int) ((zy).natAbs : Int)) := hP 3 (by decide)
              have f4 := e4
              replace Gx := Gx.rl hr
              replace Gy := Gy.rl hr
              replace HB := HB.trans (hBt.below HB.size (UpOld.all (bx := []) trivial))
              clear hBt hr hR hP hX hU
              refine wp_ret ?_
              repeat (first | refine then_ret ?_ | refine scope_ret ?_ | refine block_ret ?_)
              exact bodyPost_ret (v := .int .i64 (cmpI ((zx).natAbs : Int) ((zy).natAbs : Int))) (res_t rfl f4) hd ⟨_, rfl, congrArg (Value.int .i64) (ncmp_pos (by simpa using hc9) (by have h := Gx.2; rw [hc16] at h; exact of_decide_eq_false h.symm)), HB⟩

theorem has_ncmp : Has Try.prog 47 := by unfold Has; kernel_rfl
theorem op_ncmp {dst : Option Tmp} {ty : TypeId} {pos : String} {after : Array Edge} {guard : Option (Nat × Bool)} {a : Act} {w : World} {ats : Array TypeId} {i j : Nat} {Bx : Nat} {zx : Int} (Hx : OutN zx Bx (a.eval (.tmp i)) w) {By : Nat} {zy : Int} (Hy : OutN zy By (a.eval (.tmp j)) w)  :
    Does Try.prog { dst, op := .call { callee := .value (.func 47), args := #[.tmp i, .tmp j], argTypes := ats }, type := ty, pos, after, guard } a.eval w fun v w' => Below w.heap.size w w' ∧ (Eqs (.int .i64 (cmpI zx zy))) v w' := by
  obtain ⟨nx, ax, cx, xs, ex, Gx, Lx⟩ := Hx
  obtain ⟨ny, ay, cy, ys, ey, Gy, Ly⟩ := Hy
  refine does_call has_ncmp _ (by simp only [List.map_toArray, List.map_cons, List.map_nil, ex, ey]) ((ncmp_z w Bx _ _ _ _ _ Gx Lx By _ _ _ _ _ Gy Ly ).mono ?_)
  rintro e w' ⟨v, rfl, h1, hb⟩
  exact ⟨_, rfl, hb, h1⟩

set_option maxRecDepth 20000 in
set_option maxHeartbeats 2000000 in
theorem r2sign_z (w : World) (Bx : Nat) (nx : Bool) (ax : Option Addr) (mx cx : Nat) (xs : List Int) (zx : Int) (Ax : Ag w nx ax mx cx xs zx) (Lx : xs.length ≤ Bx) (hL : Bx ≤ 100000) :
    Calls Try.prog 16 #[.agg #[.bool nx, .slice ax mx cx]] w fun e w' => ∃ v, e = .returned v ∧ (Eqs (.int .i64 (Int.sign zx))) v w' ∧ Below w.heap.size w w' := by
  go_enter Try.func16, Try.ntmps16
  generalize hA : (Act.mk _ _) = aa
  have hn : aa.tmps.size = 6 := by rw [← hA]; rfl
  have hd : aa.defers = [] := by rw [← hA]
  have f0 : aa.eval (.tmp 0) = .agg #[.bool nx, .slice ax mx cx] := by rw [← hA]; rfl
  clear hA
  have HB : Below w.heap.size w w := Below.refl _ _
  have Tx := Ax.sl
  refine wp_seq ?_
  refine region4 [some 1, some 2] [(fun _ _ => True), Eqs ((.int .i64 0))] [⟨W2, some 0, 0, 1, .agg #[.bool nx, .slice ax mx cx], none, []⟩] [] (by kernel_rfl) hn rfl (by kernel_rfl) (by kernel_rfl) (by kernel_rfl) (by kernel_rfl) (by kernel_rfl) (by kernel_rfl) ⟨True.mono4, Eqs.mono4 _, trivial⟩ (ok_cons W2ok ok_nil) (IsOld.all (bx := [⟨W2, some 0, 0, 1, .agg #[.bool nx, .slice ax mx cx], none, []⟩]) ⟨someNe, trivial⟩) (DisOld.all (bx := [⟨W2, some 0, 0, 1, .agg #[.bool nx, .slice ax mx cx], none, []⟩]) ⟨someNe, trivial⟩) ?_ ?_
  · exact ⟨.alloc 0 _ rfl rfl (.inr ⟨_, rfl, w2_cs, fun a_ hR => (hR 0 rfl).trans f0⟩) rfl rfl rfl rfl rfl,
      .norm 2 rfl rfl rfl (fun a_ w_ hn_ hBt hr hR hD hO hS => op_assign rfl),
      trivial⟩
  · intro a1 w1 gs1 hn1 hd1 hBt hr hR hP hX hU
    replace hn := hn1; replace hd := hd1.trans hd
    have b1 : BoxV W2 w1 (gs1 0) (.agg #[.bool nx, .slice ax mx cx]) := (hX 0 _ rfl).2.2.2
    have f1 := (hX 0 _ rfl).1
    have u1 : w.heap.size ≤ gs1 0 := Nat.le_trans HB.size ((hX 0 _ rfl).2.2.1 (by simp))
    have e2 : a1.eval (.tmp 2) = (.int .i64 0) := hP 1 (by decide)
    have f2 := e2
    replace Ax := Ax.rl hr
    replace Tx := Tx.rl hr
    replace HB := HB.trans (hBt.below HB.size (UpOld.all (bx := [⟨W2, some 0, 0, 1, .agg #[.bool nx, .slice ax mx cx], none, []⟩]) ⟨someNe, trivial⟩))
    clear hBt hr hR hP hX hU
    refine wp_seq ?_
    refine region4 [some 3, some 4, some 5, some 2] [Eqs (.agg #[.bool nx, .slice ax mx cx]), OutN (zx) (3 * (Bx)), Eqs (.int .i64 (Int.sign zx)), Eqs (.int .i64 (Int.sign zx))] [] [] (by kernel_rfl) hn rfl (by kernel_rfl) (by kernel_rfl) (by kernel_rfl) (by kernel_rfl) (by kernel_rfl) (by kernel_rfl) ⟨Eqs.mono4 _, OutN.mono4 _ _, Eqs.mono4 _, Eqs.mono4 _, trivial⟩ ok_nil (IsOld.all (bx := []) trivial) (DisOld.all (bx := []) trivial) ?_ ?_
    · exact ⟨.norm 3 rfl rfl rfl (fun a_ w_ hn_ hBt hr hR hD hO hS => op_loadv W2ok ((hR 1 rfl).trans f1) (b1.keep hBt trivial)),
        .norm 4 rfl rfl rfl (fun a_ w_ hn_ hBt hr hR hD hO hS => op_nof (L := Bx) (isw_eq (show a_.eval (.tmp 3) = .agg #[.bool nx, .slice ax mx cx] from hD 0 rfl) (Ax.rl hr) Lx) (by omega)),
        .norm 5 rfl rfl rfl (fun a_ w_ hn_ hBt hr hR hD hO hS => op_nsign (show OutN (zx) (3 * (Bx)) (a_.eval (.tmp 4)) w_ from hD 1 rfl)),
        .norm 2 rfl rfl rfl (fun a_ w_ hn_ hBt hr hR hD hO hS => op_assign (show a_.eval (.tmp 5) = .int .i64 (Int.sign zx) from hD 2 rfl)),
        trivial⟩
    · intro a2 w2 gs2 hn2 hd2 hBt hr hR hP hX hU
      replace hn := hn2; replace hd := hd2.trans hd
      have e2 : a2.eval (.tmp 2) = .int .i64 (Int.sign zx) := hP 3 (by decide)
      have f2 := e2
      replace Ax := Ax.rl hr
      replace Tx := Tx.rl hr
      replace HB := HB.trans (hBt.below HB.size (UpOld.all (bx := []) trivial))
      clear hBt hr hR hP hX hU
      refine wp_ret ?_
      repeat (first | refine then_ret ?_ | refine scope_ret ?_ | refine block_ret ?_)
      exact bodyPost_ret (v := .int .i64 (Int.sign zx)) (res_t rfl f2) hd ⟨_, rfl, rfl, HB⟩

theorem has_r2sign : Has Try.prog 16 := by unfold Has; kernel_rfl
theorem op_r2sign {dst : Option Tmp} {ty : TypeId} {pos : String} {after : Array Edge} {guard : Option (Nat × Bool)} {a : Act} {w : World} {ats : Array TypeId} {i : Nat} {Bx : Nat} {zx : Int} (Hx : IsW zx Bx (a.eval (.tmp i)) w) (hL : Bx ≤ 100000) :
    Does Try.prog { dst, op := .call { callee := .value (.func 16), args := #[.tmp i], argTypes := ats }, type := ty, pos, after, guard } a.eval w fun v w' => Below w.heap.size w w' ∧ (Eqs (.int .i64 (Int.sign zx))) v w' := by
  obtain ⟨nx, ax, mx, cx, xs, ex, Ax, Lx⟩ := Hx
  refine does_call has_r2sign _ (by simp only [List.map_toArray, List.map_cons, List.map_nil, ex]) ((r2sign_z w Bx _ _ _ _ _ _ Ax Lx hL).mono ?_)
  rintro e w' ⟨v, rfl, h1, hb⟩
  exact ⟨_, rfl, hb, h1⟩

set_option maxRecDepth 20000 in
set_option maxHeartbeats 2000000 in
theorem r2trim_z (w : World) (Bx : Nat) (nx : Bool) (ax : Option Addr) (mx cx : Nat) (xs : List Int) (zx : Int) (Ax : Ag w nx ax mx cx xs zx) (Lx : xs.length ≤ Bx) (hL : Bx ≤ 100000) :
    Calls Try.prog 19 #[.agg #[.bool nx, .slice ax mx cx]] w fun e w' => ∃ v, e = .returned v ∧ (OutW zx (3 * Bx)) v w' ∧ Below w.heap.size w w' := by
  go_enter Try.func19, Try.ntmps19
  generalize hA : (Act.mk _ _) = aa
  have hn : aa.tmps.size = 6 := by rw [← hA]; rfl
  have hd : aa.defers = [] := by rw [← hA]
  have f0 : aa.eval (.tmp 0) = .agg #[.bool nx, .slice ax mx cx] := by rw [← hA]; rfl
  clear hA
  have HB : Below w.heap.size w w := Below.refl _ _
  have Tx := Ax.sl
  refine wp_seq ?_
  refine region4 [some 1, some 2] [(fun _ _ => True), (fun _ _ => True)] [⟨W2, some 0, 0, 1, .agg #[.bool nx, .slice ax mx cx], none, []⟩, ⟨W2, some 1, 0, 2, .agg #[.bool false, .slice none 0 0], none, []⟩] [] (by kernel_rfl) hn rfl (by kernel_rfl) (by kernel_rfl) (by kernel_rfl) (by kernel_rfl) (by kernel_rfl) (by kernel_rfl) ⟨True.mono4, True.mono4, trivial⟩ (ok_cons W2ok (ok_cons W2ok ok_nil)) (IsOld.all (bx := [⟨W2, some 0, 0, 1, .agg #[.bool nx, .slice ax mx cx], none, []⟩, ⟨W2, some 1, 0, 2, .agg #[.bool false, .slice none 0 0], none, []⟩]) ⟨someNe, someNe, trivial⟩) (DisOld.all (bx := [⟨W2, some 0, 0, 1, .agg #[.bool nx, .slice ax mx cx], none, []⟩, ⟨W2, some 1, 0, 2, .agg #[.bool false, .slice none 0 0], none, []⟩]) ⟨someNe, someNe, trivial⟩) ?_ ?_
  · exact ⟨.alloc 0 _ rfl rfl (.inr ⟨_, rfl, w2_cs, fun a_ hR => (hR 0 rfl).trans f0⟩) rfl rfl rfl rfl rfl,
      .alloc 1 _ rfl rfl (.inl ⟨rfl, rfl⟩) rfl rfl rfl rfl rfl,
      trivial⟩
  · intro a1 w1 gs1 hn1 hd1 hBt hr hR hP hX hU
    replace hn := hn1; replace hd := hd1.trans hd
    have ne1_2 : gs1 0 ≠ gs1 1 := hU 0 1 (by simp) (by simp) (by decide)
    have b1 : BoxV W2 w1 (gs1 0) (.agg #[.bool nx, .slice ax mx cx]) := (hX 0 _ rfl).2.2.2
    have f1 := (hX 0 _ rfl).1
    have u1 : w.heap.size ≤ gs1 0 := Nat.le_trans HB.size ((hX 0 _ rfl).2.2.1 (by simp))
    have b2 : BoxV W2 w1 (gs1 1) (.agg #[.bool false, .slice none 0 0]) := (hX 1 _ rfl).2.2.2
    have f2 := (hX 1 _ rfl).1
    have u2 : w.heap.size ≤ gs1 1 := Nat.le_trans HB.size ((hX 1 _ rfl).2.2.1 (by simp))
    replace Ax := Ax.rl hr
    replace Tx := Tx.rl hr
    replace HB := HB.trans (hBt.below HB.size (UpOld.all (bx := [⟨W2, some 0, 0, 1, .agg #[.bool nx, .slice ax mx cx], none, []⟩, ⟨W2, some 1, 0, 2, .agg #[.bool false, .slice none 0 0], none, []⟩]) ⟨someNe, someNe, trivial⟩))
    clear hBt hr hR hP hX hU
    refine wp_seq ?_
    refine region4 [some 3, some 4, some 5, none] [Eqs (.agg #[.bool nx, .slice ax mx cx]), OutN (zx) (3 * (Bx)), OutW (zx) (3 * (Bx)), (fun _ _ => True)] [⟨W2, none, (gs1 1), 2, .agg #[.bool false, .slice none 0 0], some (3, 5, 2), []⟩] [] (by kernel_rfl) hn rfl (by kernel_rfl) (by kernel_rfl) (by kernel_rfl) (by kernel_rfl) (by kernel_rfl) (by kernel_rfl) ⟨Eqs.mono4 _, OutN.mono4 _ _, OutW.mono4 _ _, True.mono4, trivial⟩ (ok_cons W2ok ok_nil) (IsOld.all (bx := [⟨W2, none, (gs1 1), 2, .agg #[.bool false, .slice none 0 0], some (3, 5, 2), []⟩]) ⟨fun _ => ⟨f2, b2⟩, trivial⟩) (DisOld.all (bx := [⟨W2, none, (gs1 1), 2, .agg #[.bool false, .slice none 0 0], some (3, 5, 2), []⟩]) ⟨fun _ => trivial, trivial⟩) ?_ ?_
    · exact ⟨.norm 3 rfl rfl rfl (fun a_ w_ hn_ hBt hr hR hD hO hS => op_loadv W2ok ((hR 1 rfl).trans f1) (b1.keep hBt ⟨fun _ => ne1_2.symm, trivial⟩)),
        .norm 4 rfl rfl rfl (fun a_ w_ hn_ hBt hr hR hD hO hS => op_nof (L := Bx) (isw_eq (show a_.eval (.tmp 3) = .agg #[.bool nx, .slice ax mx cx] from hD 0 rfl) (Ax.rl hr) Lx) (by omega)),
        .norm 5 rfl rfl rfl (fun a_ w_ hn_ hBt hr hR hD hO hS => op_ntold (show OutN (zx) (3 * (Bx)) (a_.eval (.tmp 4)) w_ from hD 1 rfl) (by omega)),
        .store 0 _ _ _ rfl rfl rfl rfl rfl rfl rfl (fun ia h => by cases h) rfl rfl rfl OutW.cs,
        trivial⟩
    · intro a2 w2 gs2 hn2 hd2 hBt hr hR hP hX hU
      replace hn := hn2; replace hd := hd2.trans hd
      obtain ⟨n_3, a_3, c_3, r_3, e5, G3, l3⟩ : OutW (zx) (3 * (Bx)) (a2.eval (.tmp 5)) w2 := hP 2 (by decide)
      have A3 := G3.ag
      have b2 : BoxV W2 w2 ((gs1 1)) (.agg #[.bool n_3, .slice a_3 r_3.length c_3]) := boxv_old ((hX 0 _ rfl).2.1 rfl) (hX 0 _ rfl).2.2.2 e5
      replace f2 : a2.eval (.tmp 2) = _ := (hR 2 rfl).trans f2
      replace Ax := Ax.rl hr
      replace Tx := Tx.rl hr
      replace HB := HB.trans (hBt.below HB.size (UpOld.all (bx := [⟨W2, none, (gs1 1), 2, .agg #[.bool false, .slice none 0 0], some (3, 5, 2), []⟩]) ⟨fun _ => u2, trivial⟩))
      clear hBt hr hR hP hX hU
      refine wp_ret ?_
      repeat (first | refine then_ret ?_ | refine scope_ret ?_ | refine block_ret ?_)
      exact bodyPost_ret (v := .agg #[.bool n_3, .slice a_3 r_3.length c_3]) (res_c rfl f2 (lv_W2 b2)) hd ⟨_, rfl, OutW.to (outw_eq rfl G3 l3) rfl (by omega), HB⟩

theorem has_r2trim : Has Try.prog 19 := by unfold Has; kernel_rfl
theorem op_r2trim {dst : Option Tmp} {ty : TypeId} {pos : String} {after : Array Edge} {guard : Option (Nat × Bool)} {a : Act} {w : World} {ats : Array TypeId} {i : Nat} {Bx : Nat} {zx : Int} (Hx : IsW zx Bx (a.eval (.tmp i)) w) (hL : Bx ≤ 100000) :
    Does Try.prog { dst, op := .call { callee := .value (.func 19), args := #[.tmp i], argTypes := ats }, type := ty, pos, after, guard } a.eval w fun v w' => Below w.heap.size w w' ∧ (OutW zx (3 * Bx)) v w' := by
  obtain ⟨nx, ax, mx, cx, xs, ex, Ax, Lx⟩ := Hx
  refine does_call has_r2trim _ (by simp only [List.map_toArray, List.map_cons, List.map_nil, ex]) ((r2trim_z w Bx _ _ _ _ _ _ Ax Lx hL).mono ?_)
  rintro e w' ⟨v, rfl, h1, hb⟩
  exact ⟨_, rfl, hb, h1⟩

set_option maxRecDepth 20000 in
set_option maxHeartbeats 2000000 in
theorem r2neg_z (w : World) (Bx : Nat) (nx : Bool) (ax : Option Addr) (mx cx : Nat) (xs : List Int) (zx : Int) (Ax : Ag w nx ax mx cx xs zx) (Lx : xs.length ≤ Bx) (hL : Bx ≤ 100000) :
    Calls Try.prog 25 #[.agg #[.bool nx, .slice ax mx cx]] w fun e w' => ∃ v, e = .returned v ∧ (OutW (-zx) (3 * Bx)) v w' ∧ Below w.heap.size w w' := by
  go_enter Try.func25, Try.ntmps25
  generalize hA : (Act.mk _ _) = aa
  have hn : aa.tmps.size = 7 := by rw [← hA]; rfl
  have hd : aa.defers = [] := by rw [← hA]
  have f0 : aa.eval (.tmp 0) = .agg #[.bool nx, .slice ax mx cx] := by rw [← hA]; rfl
  clear hA
  have HB : Below w.heap.size w w := Below.refl _ _
  have Tx := Ax.sl
  refine wp_seq ?_
  refine region4 [some 1, some 2] [(fun _ _ => True), (fun _ _ => True)] [⟨W2, some 0, 0, 1, .agg #[.bool nx, .slice ax mx cx], none, []⟩, ⟨W2, some 1, 0, 2, .agg #[.bool false, .slice none 0 0], none, []⟩] [] (by kernel_rfl) hn rfl (by kernel_rfl) (by kernel_rfl) (by kernel_rfl) (by kernel_rfl) (by kernel_rfl) (by kernel_rfl) ⟨True.mono4, True.mono4, trivial⟩ (ok_cons W2ok (ok_cons W2ok ok_nil)) (IsOld.all (bx := [⟨W2, some 0, 0, 1, .agg #[.bool nx, .slice ax mx cx], none, []⟩, ⟨W2, some 1, 0, 2, .agg #[.bool false, .slice none 0 0], none, []⟩]) ⟨someNe, someNe, trivial⟩) (DisOld.all (bx := [⟨W2, some 0, 0, 1, .agg #[.bool nx, .slice ax mx cx], none, []⟩, ⟨W2, some 1, 0, 2, .agg #[.bool false, .slice none 0 0], none, []⟩]) ⟨someNe, someNe, trivial⟩) ?_ ?_
  · exact ⟨.alloc 0 _ rfl rfl (.inr ⟨_, rfl, w2_cs, fun a_ hR => (hR 0 rfl).trans f0⟩) rfl rfl rfl rfl rfl,
      .alloc 1 _ rfl rfl (.inl ⟨rfl, rfl⟩) rfl rfl rfl rfl rfl,
      trivial⟩
  · intro a1 w1 gs1 hn1 hd1 hBt hr hR hP hX hU
    replace hn := hn1; replace hd := hd1.trans hd
    have ne1_2 : gs1 0 ≠ gs1 1 := hU 0 1 (by simp) (by simp) (by decide)
    have b1 : BoxV W2 w1 (gs1 0) (.agg #[.bool nx, .slice ax mx cx]) := (hX 0 _ rfl).2.2.2
    have f1 := (hX 0 _ rfl).1
    have u1 : w.heap.size ≤ gs1 0 := Nat.le_trans HB.size ((hX 0 _ rfl).2.2.1 (by simp))
    have b2 : BoxV W2 w1 (gs1 1) (.agg #[.bool false, .slice none 0 0]) := (hX 1 _ rfl).2.2.2
    have f2 := (hX 1 _ rfl).1
    have u2 : w.heap.size ≤ gs1 1 := Nat.le_trans HB.size ((hX 1 _ rfl).2.2.1 (by simp))
    replace Ax := Ax.rl hr
    replace Tx := Tx.rl hr
    replace HB := HB.trans (hBt.below HB.size (UpOld.all (bx := [⟨W2, some 0, 0, 1, .agg #[.bool nx, .slice ax mx cx], none, []⟩, ⟨W2, some 1, 0, 2, .agg #[.bool false, .slice none 0 0], none, []⟩]) ⟨someNe, someNe, trivial⟩))
    clear hBt hr hR hP hX hU
    refine wp_seq ?_
    refine region4 [some 3, some 4, some 5, some 6, none] [Eqs (.agg #[.bool nx, .slice ax mx cx]), OutN (zx) (3 * (Bx)), OutN ((-zx)) (3 * (Bx)), OutW ((-zx)) (3 * (Bx)), (fun _ _ => True)] [⟨W2, none, (gs1 1), 2, .agg #[.bool false, .slice none 0 0], some (4, 6, 3), []⟩] [] (by kernel_rfl) hn rfl (by kernel_rfl) (by kernel_rfl) (by kernel_rfl) (by kernel_rfl) (by kernel_rfl) (by kernel_rfl) ⟨Eqs.mono4 _, OutN.mono4 _ _, OutN.mono4 _ _, OutW.mono4 _ _, True.mono4, trivial⟩ (ok_cons W2ok ok_nil) (IsOld.all (bx := [⟨W2, none, (gs1 1), 2, .agg #[.bool false, .slice none 0 0], some (4, 6, 3), []⟩]) ⟨fun _ => ⟨f2, b2⟩, trivial⟩) (DisOld.all (bx := [⟨W2, none, (gs1 1), 2, .agg #[.bool false, .slice none 0 0], some (4, 6, 3), []⟩]) ⟨fun _ => trivial, trivial⟩) ?_ ?_
    · exact ⟨.norm 3 rfl rfl rfl (fun a_ w_ hn_ hBt hr hR hD hO hS => op_loadv W2ok ((hR 1 rfl).trans f1) (b1.keep hBt ⟨fun _ => ne1_2.symm, trivial⟩)),
        .norm 4 rfl rfl rfl (fun a_ w_ hn_ hBt hr hR hD hO hS => op_nof (L := Bx) (isw_eq (show a_.eval (.tmp 3) = .agg #[.bool nx, .slice ax mx cx] from hD 0 rfl) (Ax.rl hr) Lx) (by omega)),
        .norm 5 rfl rfl rfl (fun a_ w_ hn_ hBt hr hR hD hO hS => op_nminus (show OutN (zx) (3 * (Bx)) (a_.eval (.tmp 4)) w_ from hD 1 rfl) (by omega)),
        .norm 6 rfl rfl rfl (fun a_ w_ hn_ hBt hr hR hD hO hS => op_ntold (show OutN ((-zx)) (3 * (Bx)) (a_.eval (.tmp 5)) w_ from hD 2 rfl) (by omega)),
        .store 0 _ _ _ rfl rfl rfl rfl rfl rfl rfl (fun ia h => by cases h) rfl rfl rfl OutW.cs,
        trivial⟩
    · intro a2 w2 gs2 hn2 hd2 hBt hr hR hP hX hU
      replace hn := hn2; replace hd := hd2.trans hd
      obtain ⟨n_3, a_3, c_3, r_3, e6, G3, l3⟩ : OutW ((-zx)) (3 * (Bx)) (a2.eval (.tmp 6)) w2 := hP 3 (by decide)
      have A3 := G3.ag
      have b2 : BoxV W2 w2 ((gs1 1)) (.agg #[.bool n_3, .slice a_3 r_3.length c_3]) := boxv_old ((hX 0 _ rfl).2.1 rfl) (hX 0 _ rfl).2.2.2 e6
      replace f2 : a2.eval (.tmp 2) = _ := (hR 2 rfl).trans f2
      replace Ax := Ax.rl hr
      replace Tx := Tx.rl hr
      replace HB := HB.trans (hBt.below HB.size (UpOld.all (bx := [⟨W2, none, (gs1 1), 2, .agg #[.bool false, .slice none 0 0], some (4, 6, 3), []⟩]) ⟨fun _ => u2, trivial⟩))
      clear hBt hr hR hP hX hU
      refine wp_ret ?_
      repeat (first | refine then_ret ?_ | refine scope_ret ?_ | refine block_ret ?_)
      exact bodyPost_ret (v := .agg #[.bool n_3, .slice a_3 r_3.length c_3]) (res_c rfl f2 (lv_W2 b2)) hd ⟨_, rfl, OutW.to (outw_eq rfl G3 l3) rfl (by omega), HB⟩

theorem has_r2neg : Has Try.prog 25 := by unfold Has; kernel_rfl
theorem op_r2neg {dst : Option Tmp} {ty : TypeId} {pos : String} {after : Array Edge} {guard : Option (Nat × Bool)} {a : Act} {w : World} {ats : Array TypeId} {i : Nat} {Bx : Nat} {zx : Int} (Hx : IsW zx Bx (a.eval (.tmp i)) w) (hL : Bx ≤ 100000) :
    Does Try.prog { dst, op := .call { callee := .value (.func 25), args := #[.tmp i], argTypes := ats }, type := ty, pos, after, guard } a.eval w fun v w' => Below w.heap.size w w' ∧ (OutW (-zx) (3 * Bx)) v w' := by
  obtain ⟨nx, ax, mx, cx, xs, ex, Ax, Lx⟩ := Hx
  refine does_call has_r2neg _ (by simp only [List.map_toArray, List.map_cons, List.map_nil, ex]) ((r2neg_z w Bx _ _ _ _ _ _ Ax Lx hL).mono ?_)
  rintro e w' ⟨v, rfl, h1, hb⟩
  exact ⟨_, rfl, hb, h1⟩

set_option maxRecDepth 20000 in
set_option maxHeartbeats 2000000 in
theorem r2add_z (w : World) (Bx : Nat) (nx : Bool) (ax : Option Addr) (mx cx : Nat) (xs : List Int) (zx : Int) (Ax : Ag w nx ax mx cx xs zx) (Lx : xs.length ≤ Bx) (By : Nat) (ny : Bool) (ay : Option Addr) (my cy : Nat) (ys : List Int) (zy : Int) (Ay : Ag w ny ay my cy ys zy) (Ly : ys.length ≤ By) (hL : Bx + By ≤ 100000) :
    Calls Try.prog 22 #[.agg #[.bool nx, .slice ax mx cx], .agg #[.bool ny, .slice ay my cy]] w fun e w' => ∃ v, e = .returned v ∧ (OutW (zx + zy) (3 * Bx + 3 * By + 1)) v w' ∧ Below w.heap.size w w' := by
  go_enter Try.func22, Try.ntmps22
  generalize hA : (Act.mk _ _) = aa
  have hn : aa.tmps.size = 11 := by rw [← hA]; rfl
  have hd : aa.defers = [] := by rw [← hA]
  have f0 : aa.eval (.tmp 0) = .agg #[.bool nx, .slice ax mx cx] := by rw [← hA]; rfl
  have f1 : aa.eval (.tmp 1) = .agg #[.bool ny, .slice ay my cy] := by rw [← hA]; rfl
  clear hA
  have HB : Below w.heap.size w w := Below.refl _ _
  have Tx := Ax.sl
  have Ty := Ay.sl
  refine wp_seq ?_
  refine region4 [some 2, some 3, some 4] [(fun _ _ => True), (fun _ _ => True), (fun _ _ => True)] [⟨W2, some 0, 0, 2, .agg #[.bool nx, .slice ax mx cx], none, []⟩, ⟨W2, some 1, 0, 3, .agg #[.bool ny, .slice ay my cy], none, []⟩, ⟨W2, some 2, 0, 4, .agg #[.bool false, .slice none 0 0], none, []⟩] [] (by kernel_rfl) hn rfl (by kernel_rfl) (by kernel_rfl) (by kernel_rfl) (by kernel_rfl) (by kernel_rfl) (by kernel_rfl) ⟨True.mono4, True.mono4, True.mono4, trivial⟩ (ok_cons W2ok (ok_cons W2ok (ok_cons W2ok ok_nil))) (IsOld.all (bx := [⟨W2, some 0, 0, 2, .agg #[.bool nx, .slice ax mx cx], none, []⟩, ⟨W2, some 1, 0, 3, .agg #[.bool ny, .slice ay my cy], none, []⟩, ⟨W2, some 2, 0, 4, .agg #[.bool false, .slice none 0 0], none, []⟩]) ⟨someNe, someNe, someNe, trivial⟩) (DisOld.all (bx := [⟨W2, some 0, 0, 2, .agg #[.bool nx, .slice ax mx cx], none, []⟩, ⟨W2, some 1, 0, 3, .agg #[.bool ny, .slice ay my cy], none, []⟩, ⟨W2, some 2, 0, 4, .agg #[.bool false, .slice none 0 0], none, []⟩]) ⟨someNe, someNe, someNe, trivial⟩) ?_ ?_
  · exact ⟨.alloc 0 _ rfl rfl (.inr ⟨_, rfl, w2_cs, fun a_ hR => (hR 0 rfl).trans f0⟩) rfl rfl rfl rfl rfl,
      .alloc 1 _ rfl rfl (.inr ⟨_, rfl, w2_cs, fun a_ hR => (hR 1 rfl).trans f1⟩) rfl rfl rfl rfl rfl,
      .alloc 2 _ rfl rfl (.inl ⟨rfl, rfl⟩) rfl rfl rfl rfl rfl,
      trivial⟩
  · intro a1 w1 gs1 hn1 hd1 hBt hr hR hP hX hU
    replace hn := hn1; replace hd := hd1.trans hd
    have ne2_4 : gs1 0 ≠ gs1 2 := hU 0 2 (by simp) (by simp) (by decide)
    have ne3_4 : gs1 1 ≠ gs1 2 := hU 1 2 (by simp) (by simp) (by decide)
    have b2 : BoxV W2 w1 (gs1 0) (.agg #[.bool nx, .slice ax mx cx]) := (hX 0 _ rfl).2.2.2
    have f2 := (hX 0 _ rfl).1
    have u2 : w.heap.size ≤ gs1 0 := Nat.le_trans HB.size ((hX 0 _ rfl).2.2.1 (by simp))
    have b3 : BoxV W2 w1 (gs1 1) (.agg #[.bool ny, .slice ay my cy]) := (hX 1 _ rfl).2.2.2
    have f3 := (hX 1 _ rfl).1
    have u3 : w.heap.size ≤ gs1 1 := Nat.le_trans HB.size ((hX 1 _ rfl).2.2.1 (by simp))
    have b4 : BoxV W2 w1 (gs1 2) (.agg #[.bool false, .slice none 0 0]) := (hX 2 _ rfl).2.2.2
    have f4 := (hX 2 _ rfl).1
    have u4 : w.heap.size ≤ gs1 2 := Nat.le_trans HB.size ((hX 2 _ rfl).2.2.1 (by simp))
    replace Ax := Ax.rl hr
    replace Tx := Tx.rl hr
    replace Ay := Ay.rl hr
    replace Ty := Ty.rl hr
    replace HB := HB.trans (hBt.below HB.size (UpOld.all (bx := [⟨W2, some 0, 0, 2, .agg #[.bool nx, .slice ax mx cx], none, []⟩, ⟨W2, some 1, 0, 3, .agg #[.bool ny, .slice ay my cy], none, []⟩, ⟨W2, some 2, 0, 4, .agg #[.bool false, .slice none 0 0], none, []⟩]) ⟨someNe, someNe, someNe, trivial⟩))
    clear hBt hr hR hP hX hU
    refine wp_seq ?_
    refine region4 [some 5, some 6, some 7, some 8, some 9, some 10, none] [Eqs (.agg #[.bool nx, .slice ax mx cx]), OutN (zx) (3 * (Bx)), Eqs (.agg #[.bool ny, .slice ay my cy]), OutN (zy) (3 * (By)), OutN ((zx + zy)) ((3 * (Bx)) + (3 * (By)) + 1), OutW ((zx + zy)) ((3 * (Bx)) + (3 * (By)) + 1), (fun _ _ => True)] [⟨W2, none, (gs1 2), 4, .agg #[.bool false, .slice none 0 0], some (6, 10, 5), []⟩] [] (by kernel_rfl) hn rfl (by kernel_rfl) (by kernel_rfl) (by kernel_rfl) (by kernel_rfl) (by kernel_rfl) (by kernel_rfl) ⟨Eqs.mono4 _, OutN.mono4 _ _, Eqs.mono4 _, OutN.mono4 _ _, OutN.mono4 _ _, OutW.mono4 _ _, True.mono4, trivial⟩ (ok_cons W2ok ok_nil) (IsOld.all (bx := [⟨W2, none, (gs1 2), 4, .agg #[.bool false, .slice none 0 0], some (6, 10, 5), []⟩]) ⟨fun _ => ⟨f4, b4⟩, trivial⟩) (DisOld.all (bx := [⟨W2, none, (gs1 2), 4, .agg #[.bool false, .slice none 0 0], some (6, 10, 5), []⟩]) ⟨fun _ => trivial, trivial⟩) ?_ ?_
    · exact ⟨.norm 5 rfl rfl rfl (fun a_ w_ hn_ hBt hr hR hD hO hS => op_loadv W2ok ((hR 2 rfl).trans f2) (b2.keep hBt ⟨fun _ => ne2_4.symm, trivial⟩)),
        .norm 6 rfl rfl rfl (fun a_ w_ hn_ hBt hr hR hD hO hS => op_nof (L := Bx) (isw_eq (show a_.eval (.tmp 5) = .agg #[.bool nx, .slice ax mx cx] from hD 0 rfl) (Ax.rl hr) Lx) (by omega)),
        .norm 7 rfl rfl rfl (fun a_ w_ hn_ hBt hr hR hD hO hS => op_loadv W2ok ((hR 3 rfl).trans f3) (b3.keep hBt ⟨fun _ => ne3_4.symm, trivial⟩)),
        .norm 8 rfl rfl rfl (fun a_ w_ hn_ hBt hr hR hD hO hS => op_nof (L := By) (isw_eq (show a_.eval (.tmp 7) = .agg #[.bool ny, .slice ay my cy] from hD 2 rfl) (Ay.rl hr) Ly) (by omega)),
        .norm 9 rfl rfl rfl (fun a_ w_ hn_ hBt hr hR hD hO hS => op_nadd (L1 := 3 * (Bx)) (L2 := 3 * (By)) (show OutN (zx) (3 * (Bx)) (a_.eval (.tmp 6)) w_ from hD 1 rfl) (show OutN (zy) (3 * (By)) (a_.eval (.tmp 8)) w_ from hD 3 rfl) (by omega) (by omega)),
        .norm 10 rfl rfl rfl (fun a_ w_ hn_ hBt hr hR hD hO hS => op_ntold (show OutN ((zx + zy)) ((3 * (Bx)) + (3 * (By)) + 1) (a_.eval (.tmp 9)) w_ from hD 4 rfl) (by omega)),
        .store 0 _ _ _ rfl rfl rfl rfl rfl rfl rfl (fun ia h => by cases h) rfl rfl rfl OutW.cs,
        trivial⟩
    · intro a2 w2 gs2 hn2 hd2 hBt hr hR hP hX hU
      replace hn := hn2; replace hd := hd2.trans hd
      obtain ⟨n_3, a_3, c_3, r_3, e10, G3, l3⟩ : OutW ((zx + zy)) ((3 * (Bx)) + (3 * (By)) + 1) (a2.eval (.tmp 10)) w2 := hP 5 (by decide)
      have A3 := G3.ag
      have b4 : BoxV W2 w2 ((gs1 2)) (.agg #[.bool n_3, .slice a_3 r_3.length c_3]) := boxv_old ((hX 0 _ rfl).2.1 rfl) (hX 0 _ rfl).2.2.2 e10
      replace f4 : a2.eval (.tmp 4) = _ := (hR 4 rfl).trans f4
      replace Ax := Ax.rl hr
      replace Tx := Tx.rl hr
      replace Ay := Ay.rl hr
      replace Ty := Ty.rl hr
      replace HB := HB.trans (hBt.below HB.size (UpOld.all (bx := [⟨W2, none, (gs1 2), 4, .agg #[.bool false, .slice none 0 0], some (6, 10, 5), []⟩]) ⟨fun _ => u4, trivial⟩))
      clear hBt hr hR hP hX hU
      refine wp_ret ?_
      repeat (first | refine then_ret ?_ | refine scope_ret ?_ | refine block_ret ?_)
      exact bodyPost_ret (v := .agg #[.bool n_3, .slice a_3 r_3.length c_3]) (res_c rfl f4 (lv_W2 b4)) hd ⟨_, rfl, OutW.to (outw_eq rfl G3 l3) rfl (by omega), HB⟩

theorem has_r2add : Has Try.prog 22 := by unfold Has; kernel_rfl
theorem op_r2add {dst : Option Tmp} {ty : TypeId} {pos : String} {after : Array Edge} {guard : Option (Nat × Bool)} {a : Act} {w : World} {ats : Array TypeId} {i j : Nat} {Bx : Nat} {zx : Int} (Hx : IsW zx Bx (a.eval (.tmp i)) w) {By : Nat} {zy : Int} (Hy : IsW zy By (a.eval (.tmp j)) w) (hL : Bx + By ≤ 100000) :
    Does Try.prog { dst, op := .call { callee := .value (.func 22), args := #[.tmp i, .tmp j], argTypes := ats }, type := ty, pos, after, guard } a.eval w fun v w' => Below w.heap.size w w' ∧ (OutW (zx + zy) (3 * Bx + 3 * By + 1)) v w' := by
  obtain ⟨nx, ax, mx, cx, xs, ex, Ax, Lx⟩ := Hx
  obtain ⟨ny, ay, my, cy, ys, ey, Ay, Ly⟩ := Hy
  refine does_call has_r2add _ (by simp only [List.map_toArray, List.map_cons, List.map_nil, ex, ey]) ((r2add_z w Bx _ _ _ _ _ _ Ax Lx By _ _ _ _ _ _ Ay Ly hL).mono ?_)
  rintro e w' ⟨v, rfl, h1, hb⟩
  exact ⟨_, rfl, hb, h1⟩

set_option maxRecDepth 20000 in
set_option maxHeartbeats 2000000 in
theorem r2sub_z (w : World) (Bx : Nat) (nx : Bool) (ax : Option Addr) (mx cx : Nat) (xs : List Int) (zx : Int) (Ax : Ag w nx ax mx cx xs zx) (Lx : xs.length ≤ Bx) (By : Nat) (ny : Bool) (ay : Option Addr) (my cy : Nat) (ys : List Int) (zy : Int) (Ay : Ag w ny ay my cy ys zy) (Ly : ys.length ≤ By) (hL : Bx + By ≤ 100000) :
    Calls Try.prog 23 #[.agg #[.bool nx, .slice ax mx cx], .agg #[.bool ny, .slice ay my cy]] w fun e w' => ∃ v, e = .returned v ∧ (OutW (zx - zy) (3 * Bx + 3 * By + 1)) v w' ∧ Below w.heap.size w w' := by
  go_enter Try.func23, Try.ntmps23
  generalize hA : (Act.mk _ _) = aa
  have hn : aa.tmps.size = 11 := by rw [← hA]; rfl
  have hd : aa.defers = [] := by rw [← hA]
  have f0 : aa.eval (.tmp 0) = .agg #[.bool nx, .slice ax mx cx] := by rw [← hA]; rfl
  have f1 : aa.eval (.tmp 1) = .agg #[.bool ny, .slice ay my cy] := by rw [← hA]; rfl
  clear hA
  have HB : Below w.heap.size w w := Below.refl _ _
  have Tx := Ax.sl
  have Ty := Ay.sl
  refine wp_seq ?_
  refine region4 [some 2, some 3, some 4] [(fun _ _ => True), (fun _ _ => True), (fun _ _ => True)] [⟨W2, some 0, 0, 2, .agg #[.bool nx, .slice ax mx cx], none, []⟩, ⟨W2, some 1, 0, 3, .agg #[.bool ny, .slice ay my cy], none, []⟩, ⟨W2, some 2, 0, 4, .agg #[.bool false, .slice none 0 0], none, []⟩] [] (by kernel_rfl) hn rfl (by kernel_rfl) (by kernel_rfl) (by kernel_rfl) (by kernel_rfl) (by kernel_rfl) (by kernel_rfl) ⟨True.mono4, True.mono4, True.mono4, trivial⟩ (ok_cons W2ok (ok_cons W2ok (ok_cons W2ok ok_nil))) (IsOld.all (bx := [⟨W2, some 0, 0, 2, .agg #[.bool nx, .slice ax mx cx], none, []⟩, ⟨W2, some 1, 0, 3, .agg #[.bool ny, .slice ay my cy], none, []⟩, ⟨W2, some 2, 0, 4, .agg #[.bool false, .slice none 0 0], none, []⟩]) ⟨someNe, someNe, someNe, trivial⟩) (DisOld.all (bx := [⟨W2, some 0, 0, 2, .agg #[.bool nx, .slice ax mx cx], none, []⟩, ⟨W2, some 1, 0, 3, .agg #[.bool ny, .slice ay my cy], none, []⟩, ⟨W2, some 2, 0, 4, .agg #[.bool false, .slice none 0 0], none, []⟩]) ⟨someNe, someNe, someNe, trivial⟩) ?_ ?_
  · exact ⟨.alloc 0 _ rfl rfl (.inr ⟨_, rfl, w2_cs, fun a_ hR => (hR 0 rfl).trans f0⟩) rfl rfl rfl rfl rfl,
      .alloc 1 _ rfl rfl (.inr ⟨_, rfl, w2_cs, fun a_ hR => (hR 1 rfl).trans f1⟩) rfl rfl rfl rfl rfl,
      .alloc 2 _ rfl rfl (.inl ⟨rfl, rfl⟩) rfl rfl rfl rfl rfl,
      trivial⟩
  · intro a1 w1 gs1 hn1 hd1 hBt hr hR hP hX hU
    replace hn := hn1; replace hd := hd1.trans hd
    have ne2_4 : gs1 0 ≠ gs1 2 := hU 0 2 (by simp) (by simp) (by decide)
    have ne3_4 : gs1 1 ≠ gs1 2 := hU 1 2 (by simp) (by simp) (by decide)
    have b2 : BoxV W2 w1 (gs1 0) (.agg #[.bool nx, .slice ax mx cx]) := (hX 0 _ rfl).2.2.2
    have f2 := (hX 0 _ rfl).1
    have u2 : w.heap.size ≤ gs1 0 := Nat.le_trans HB.size ((hX 0 _ rfl).2.2.1 (by simp))
    have b3 : BoxV W2 w1 (gs1 1) (.agg #[.bool ny, .slice ay my cy]) := (hX 1 _ rfl).2.2.2
    have f3 := (hX 1 _ rfl).1
    have u3 : w.heap.size ≤ gs1 1 := Nat.le_trans HB.size ((hX 1 _ rfl).2.2.1 (by simp))
    have b4 : BoxV W2 w1 (gs1 2) (.agg #[.bool false, .slice none 0 0]) := (hX 2 _ rfl).2.2.2
    have f4 := (hX 2 _ rfl).1
    have u4 : w.heap.size ≤ gs1 2 := Nat.le_trans HB.size ((hX 2 _ rfl).2.2.1 (by simp))
    replace Ax := Ax.rl hr
    replace Tx := Tx.rl hr
    replace Ay := Ay.rl hr
    replace Ty := Ty.rl hr
    replace HB := HB.trans (hBt.below HB.size (UpOld.all (bx := [⟨W2, some 0, 0, 2, .agg #[.bool nx, .slice ax mx cx], none, []⟩, ⟨W2, some 1, 0, 3, .agg #[.bool ny, .slice ay my cy], none, []⟩, ⟨W2, some 2, 0, 4, .agg #[.bool false, .slice none 0 0], none, []⟩]) ⟨someNe, someNe, someNe, trivial⟩))
    clear hBt hr hR hP hX hU
    refine wp_seq ?_
    refine region4 [some 5, some 6, some 7, some 8, some 9, some 10, none] [Eqs (.agg #[.bool nx, .slice ax mx cx]), OutN (zx) (3 * (Bx)), Eqs (.agg #[.bool ny, .slice ay my cy]), OutN (zy) (3 * (By)), OutN ((zx - zy)) ((3 * (Bx)) + (3 * (By)) + 1), OutW ((zx - zy)) ((3 * (Bx)) + (3 * (By)) + 1), (fun _ _ => True)] [⟨W2, none, (gs1 2), 4, .agg #[.bool false, .slice none 0 0], some (6, 10, 5), []⟩] [] (by kernel_rfl) hn rfl (by kernel_rfl) (by kernel_rfl) (by kernel_rfl) (by kernel_rfl) (by kernel_rfl) (by kernel_rfl) ⟨Eqs.mono4 _, OutN.mono4 _ _, Eqs.mono4 _, OutN.mono4 _ _, OutN.mono4 _ _, OutW.mono4 _ _, True.mono4, trivial⟩ (ok_cons W2ok ok_nil) (IsOld.all (bx := [⟨W2, none, (gs1 2), 4, .agg #[.bool false, .slice none 0 0], some (6, 10, 5), []⟩]) ⟨fun _ => ⟨f4, b4⟩, trivial⟩) (DisOld.all (bx := [⟨W2, none, (gs1 2), 4, .agg #[.bool false, .slice none 0 0], some (6, 10, 5), []⟩]) ⟨fun _ => trivial, trivial⟩) ?_ ?_
    · exact ⟨.norm 5 rfl rfl rfl (fun a_ w_ hn_ hBt hr hR hD hO hS => op_loadv W2ok ((hR 2 rfl).trans f2) (b2.keep hBt ⟨fun _ => ne2_4.symm, trivial⟩)),
        .norm 6 rfl rfl rfl (fun a_ w_ hn_ hBt hr hR hD hO hS => op_nof (L := Bx) (isw_eq (show a_.eval (.tmp 5) = .agg #[.bool nx, .slice ax mx cx] from hD 0 rfl) (Ax.rl hr) Lx) (by omega)),
        .norm 7 rfl rfl rfl (fun a_ w_ hn_ hBt hr hR hD hO hS => op_loadv W2ok ((hR 3 rfl).trans f3) (b3.keep hBt ⟨fun _ => ne3_4.symm, trivial⟩)),
        .norm 8 rfl rfl rfl (fun a_ w_ hn_ hBt hr hR hD hO hS => op_nof (L := By) (isw_eq (show a_.eval (.tmp 7) = .agg #[.bool ny, .slice ay my cy] from hD 2 rfl) (Ay.rl hr) Ly) (by omega)),
        .norm 9 rfl rfl rfl (fun a_ w_ hn_ hBt hr hR hD hO hS => op_nsub (L1 := 3 * (Bx)) (L2 := 3 * (By)) (show OutN (zx) (3 * (Bx)) (a_.eval (.tmp 6)) w_ from hD 1 rfl) (show OutN (zy) (3 * (By)) (a_.eval (.tmp 8)) w_ from hD 3 rfl) (by omega) (by omega)),
        .norm 10 rfl rfl rfl (fun a_ w_ hn_ hBt hr hR hD hO hS => op_ntold (show OutN ((zx - zy)) ((3 * (Bx)) + (3 * (By)) + 1) (a_.eval (.tmp 9)) w_ from hD 4 rfl) (by omega)),
        .store 0 _ _ _ rfl rfl rfl rfl rfl rfl rfl (fun ia h => by cases h) rfl rfl rfl OutW.cs,
        trivial⟩
    · intro a2 w2 gs2 hn2 hd2 hBt hr hR hP hX hU
      replace hn := hn2; replace hd := hd2.trans hd
      obtain ⟨n_3, a_3, c_3, r_3, e10, G3, l3⟩ : OutW ((zx - zy)) ((3 * (Bx)) + (3 * (By)) + 1) (a2.eval (.tmp 10)) w2 := hP 5 (by decide)
      have A3 := G3.ag
      have b4 : BoxV W2 w2 ((gs1 2)) (.agg #[.bool n_3, .slice a_3 r_3.length c_3]) := boxv_old ((hX 0 _ rfl).2.1 rfl) (hX 0 _ rfl).2.2.2 e10
      replace f4 : a2.eval (.tmp 4) = _ := (hR 4 rfl).trans f4
      replace Ax := Ax.rl hr
      replace Tx := Tx.rl hr
      replace Ay := Ay.rl hr
      replace Ty := Ty.rl hr
      replace HB := HB.trans (hBt.below HB.size (UpOld.all (bx := [⟨W2, none, (gs1 2), 4, .agg #[.bool false, .slice none 0 0], some (6, 10, 5), []⟩]) ⟨fun _ => u4, trivial⟩))
      clear hBt hr hR hP hX hU
      refine wp_ret ?_
      repeat (first | refine then_ret ?_ | refine scope_ret ?_ | refine block_ret ?_)
      exact bodyPost_ret (v := .agg #[.bool n_3, .slice a_3 r_3.length c_3]) (res_c rfl f4 (lv_W2 b4)) hd ⟨_, rfl, OutW.to (outw_eq rfl G3 l3) rfl (by omega), HB⟩

theorem has_r2sub : Has Try.prog 23 := by unfold Has; kernel_rfl
theorem op_r2sub {dst : Option Tmp} {ty : TypeId} {pos : String} {after : Array Edge} {guard : Option (Nat × Bool)} {a : Act} {w : World} {ats : Array TypeId} {i j : Nat} {Bx : Nat} {zx : Int} (Hx : IsW zx Bx (a.eval (.tmp i)) w) {By : Nat} {zy : Int} (Hy : IsW zy By (a.eval (.tmp j)) w) (hL : Bx + By ≤ 100000) :
    Does Try.prog { dst, op := .call { callee := .value (.func 23), args := #[.tmp i, .tmp j], argTypes := ats }, type := ty, pos, after, guard } a.eval w fun v w' => Below w.heap.size w w' ∧ (OutW (zx - zy) (3 * Bx + 3 * By + 1)) v w' := by
  obtain ⟨nx, ax, mx, cx, xs, ex, Ax, Lx⟩ := Hx
  obtain ⟨ny, ay, my, cy, ys, ey, Ay, Ly⟩ := Hy
  refine does_call has_r2sub _ (by simp only [List.map_toArray, List.map_cons, List.map_nil, ex, ey]) ((r2sub_z w Bx _ _ _ _ _ _ Ax Lx By _ _ _ _ _ _ Ay Ly hL).mono ?_)
  rintro e w' ⟨v, rfl, h1, hb⟩
  exact ⟨_, rfl, hb, h1⟩

set_option maxRecDepth 20000 in
set_option maxHeartbeats 2000000 in
theorem r2mul_z (w : World) (Bx : Nat) (nx : Bool) (ax : Option Addr) (mx cx : Nat) (xs : List Int) (zx : Int) (Ax : Ag w nx ax mx cx xs zx) (Lx : xs.length ≤ Bx) (By : Nat) (ny : Bool) (ay : Option Addr) (my cy : Nat) (ys : List Int) (zy : Int) (Ay : Ag w ny ay my cy ys zy) (Ly : ys.length ≤ By) (hL : Bx + By ≤ 100000) :
    Calls Try.prog 24 #[.agg #[.bool nx, .slice ax mx cx], .agg #[.bool ny, .slice ay my cy]] w fun e w' => ∃ v, e = .returned v ∧ (OutW (zx * zy) (3 * Bx + 3 * By + 1)) v w' ∧ Below w.heap.size w w' := by
  go_enter Try.func24, Try.ntmps24
  generalize hA : (Act.mk _ _) = aa
  have hn : aa.tmps.size = 11 := by rw [← hA]; rfl
  have hd : aa.defers = [] := by rw [← hA]
  have f0 : aa.eval (.tmp 0) = .agg #[.bool nx, .slice ax mx cx] := by rw [← hA]; rfl
  have f1 : aa.eval (.tmp 1) = .agg #[.bool ny, .slice ay my cy] := by rw [← hA]; rfl
  clear hA
  have HB : Below w.heap.size w w := Below.refl _ _
  have Tx := Ax.sl
  have Ty := Ay.sl
  refine wp_seq ?_
  refine region4 [some 2, some 3, some 4] [(fun _ _ => True), (fun _ _ => True), (fun _ _ => True)] [⟨W2, some 0, 0, 2, .agg #[.bool nx, .slice ax mx cx], none, []⟩, ⟨W2, some 1, 0, 3, .agg #[.bool ny, .slice ay my cy], none, []⟩, ⟨W2, some 2, 0, 4, .agg #[.bool false, .slice none 0 0], none, []⟩] [] (by kernel_rfl) hn rfl (by kernel_rfl) (by kernel_rfl) (by kernel_rfl) (by kernel_rfl) (by kernel_rfl) (by kernel_rfl) ⟨True.mono4, True.mono4, True.mono4, trivial⟩ (ok_cons W2ok (ok_cons W2ok (ok_cons W2ok ok_nil))) (IsOld.all (bx := [⟨W2, some 0, 0, 2, .agg #[.bool nx, .slice ax mx cx], none, []⟩, ⟨W2, some 1, 0, 3, .agg #[.bool ny, .slice ay my cy], none, []⟩, ⟨W2, some 2, 0, 4, .agg #[.bool false, .slice none 0 0], none, []⟩]) ⟨someNe, someNe, someNe, trivial⟩) (DisOld.all (bx := [⟨W2, some 0, 0, 2, .agg #[.bool nx, .slice ax mx cx], none, []⟩, ⟨W2, some 1, 0, 3, .agg #[.bool ny, .slice ay my cy], none, []⟩, ⟨W2, some 2, 0, 4, .agg #[.bool false, .slice none 0 0], none, []⟩]) ⟨someNe, someNe, someNe, trivial⟩) ?_ ?_
  · exact ⟨.alloc 0 _ rfl rfl (.inr ⟨_, rfl, w2_cs, fun a_ hR => (hR 0 rfl).trans f0⟩) rfl rfl rfl rfl rfl,
      .alloc 1 _ rfl rfl (.inr ⟨_, rfl, w2_cs, fun a_ hR => (hR 1 rfl).trans f1⟩) rfl rfl rfl rfl rfl,
      .alloc 2 _ rfl rfl (.inl ⟨rfl, rfl⟩) rfl rfl rfl rfl rfl,
      trivial⟩
  · intro a1 w1 gs1 hn1 hd1 hBt hr hR hP hX hU
    replace hn := hn1; replace hd := hd1.trans hd
    have ne2_4 : gs1 0 ≠ gs1 2 := hU 0 2 (by simp) (by simp) (by decide)
    have ne3_4 : gs1 1 ≠ gs1 2 := hU 1 2 (by simp) (by simp) (by decide)
    have b2 : BoxV W2 w1 (gs1 0) (.agg #[.bool nx, .slice ax mx cx]) := (hX 0 _ rfl).2.2.2
    have f2 := (hX 0 _ rfl).1
    have u2 : w.heap.size ≤ gs1 0 := Nat.le_trans HB.size ((hX 0 _ rfl).2.2.1 (by simp))
    have b3 : BoxV W2 w1 (gs1 1) (.agg #[.bool ny, .slice ay my cy]) := (hX 1 _ rfl).2.2.2
    have f3 := (hX 1 _ rfl).1
    have u3 : w.heap.size ≤ gs1 1 := Nat.le_trans HB.size ((hX 1 _ rfl).2.2.1 (by simp))
    have b4 : BoxV W2 w1 (gs1 2) (.agg #[.bool false, .slice none 0 0]) := (hX 2 _ rfl).2.2.2
    have f4 := (hX 2 _ rfl).1
    have u4 : w.heap.size ≤ gs1 2 := Nat.le_trans HB.size ((hX 2 _ rfl).2.2.1 (by simp))
    replace Ax := Ax.rl hr
    replace Tx := Tx.rl hr
    replace Ay := Ay.rl hr
    replace Ty := Ty.rl hr
    replace HB := HB.trans (hBt.below HB.size (UpOld.all (bx := [⟨W2, some 0, 0, 2, .agg #[.bool nx, .slice ax mx cx], none, []⟩, ⟨W2, some 1, 0, 3, .agg #[.bool ny, .slice ay my cy], none, []⟩, ⟨W2, some 2, 0, 4, .agg #[.bool false, .slice none 0 0], none, []⟩]) ⟨someNe, someNe, someNe, trivial⟩))
    clear hBt hr hR hP hX hU
    refine wp_seq ?_
    refine region4 [some 5, some 6, some 7, some 8, some 9, some 10, none] [Eqs (.agg #[.bool nx, .slice ax mx cx]), OutN (zx) (3 * (Bx)), Eqs (.agg #[.bool ny, .slice ay my cy]), OutN (zy) (3 * (By)), OutN ((zx * zy)) ((3 * (Bx)) + (3 * (By)) + 1), OutW ((zx * zy)) ((3 * (Bx)) + (3 * (By)) + 1), (fun _ _ => True)] [⟨W2, none, (gs1 2), 4, .agg #[.bool false, .slice none 0 0], some (6, 10, 5), []⟩] [] (by kernel_rfl) hn rfl (by kernel_rfl) (by kernel_rfl) (by kernel_rfl) (by kernel_rfl) (by kernel_rfl) (by kernel_rfl) ⟨Eqs.mono4 _, OutN.mono4 _ _, Eqs.mono4 _, OutN.mono4 _ _, OutN.mono4 _ _, OutW.mono4 _ _, True.mono4, trivial⟩ (ok_cons W2ok ok_nil) (IsOld.all (bx := [⟨W2, none, (gs1 2), 4, .agg #[.bool false, .slice none 0 0], some (6, 10, 5), []⟩]) ⟨fun _ => ⟨f4, b4⟩, trivial⟩) (DisOld.all (bx := [⟨W2, none, (gs1 2), 4, .agg #[.bool false, .slice none 0 0], some (6, 10, 5), []⟩]) ⟨fun _ => trivial, trivial⟩) ?_ ?_
    · exact ⟨.norm 5 rfl rfl rfl (fun a_ w_ hn_ hBt hr hR hD hO hS => op_loadv W2ok ((hR 2 rfl).trans f2) (b2.keep hBt ⟨fun _ => ne2_4.symm, trivial⟩)),
        .norm 6 rfl rfl rfl (fun a_ w_ hn_ hBt hr hR hD hO hS => op_nof (L := Bx) (isw_eq (show a_.eval (.tmp 5) = .agg #[.bool nx, .slice ax mx cx] from hD 0 rfl) (Ax.rl hr) Lx) (by omega)),
        .norm 7 rfl rfl rfl (fun a_ w_ hn_ hBt hr hR hD hO hS => op_loadv W2ok ((hR 3 rfl).trans f3) (b3.keep hBt ⟨fun _ => ne3_4.symm, trivial⟩)),
        .norm 8 rfl rfl rfl (fun a_ w_ hn_ hBt hr hR hD hO hS => op_nof (L := By) (isw_eq (show a_.eval (.tmp 7) = .agg #[.bool ny, .slice ay my cy] from hD 2 rfl) (Ay.rl hr) Ly) (by omega)),
        .norm 9 rfl rfl rfl (fun a_ w_ hn_ hBt hr hR hD hO hS => op_nmul (L1 := 3 * (Bx)) (L2 := 3 * (By)) (show OutN (zx) (3 * (Bx)) (a_.eval (.tmp 6)) w_ from hD 1 rfl) (show OutN (zy) (3 * (By)) (a_.eval (.tmp 8)) w_ from hD 3 rfl) (by omega) (by omega)),
        .norm 10 rfl rfl rfl (fun a_ w_ hn_ hBt hr hR hD hO hS => op_ntold (show OutN ((zx * zy)) ((3 * (Bx)) + (3 * (By)) + 1) (a_.eval (.tmp 9)) w_ from hD 4 rfl) (by omega)),
        .store 0 _ _ _ rfl rfl rfl rfl rfl rfl rfl (fun ia h => by cases h) rfl rfl rfl OutW.cs,
        trivial⟩
    · intro a2 w2 gs2 hn2 hd2 hBt hr hR hP hX hU
      replace hn := hn2; replace hd := hd2.trans hd
      obtain ⟨n_3, a_3, c_3, r_3, e10, G3, l3⟩ : OutW ((zx * zy)) ((3 * (Bx)) + (3 * (By)) + 1) (a2.eval (.tmp 10)) w2 := hP 5 (by decide)
      have A3 := G3.ag
      have b4 : BoxV W2 w2 ((gs1 2)) (.agg #[.bool n_3, .slice a_3 r_3.length c_3]) := boxv_old ((hX 0 _ rfl).2.1 rfl) (hX 0 _ rfl).2.2.2 e10
      replace f4 : a2.eval (.tmp 4) = _ := (hR 4 rfl).trans f4
      replace Ax := Ax.rl hr
      replace Tx := Tx.rl hr
      replace Ay := Ay.rl hr
      replace Ty := Ty.rl hr
      replace HB := HB.trans (hBt.below HB.size (UpOld.all (bx := [⟨W2, none, (gs1 2), 4, .agg #[.bool false, .slice none 0 0], some (6, 10, 5), []⟩]) ⟨fun _ => u4, trivial⟩))
      clear hBt hr hR hP hX hU
      refine wp_ret ?_
      repeat (first | refine then_ret ?_ | refine scope_ret ?_ | refine block_ret ?_)
      exact bodyPost_ret (v := .agg #[.bool n_3, .slice a_3 r_3.length c_3]) (res_c rfl f4 (lv_W2 b4)) hd ⟨_, rfl, OutW.to (outw_eq rfl G3 l3) rfl (by omega), HB⟩

theorem has_r2mul : Has Try.prog 24 := by unfold Has; kernel_rfl
theorem op_r2mul {dst : Option Tmp} {ty : TypeId} {pos : String} {after : Array Edge} {guard : Option (Nat × Bool)} {a : Act} {w : World} {ats : Array TypeId} {i j : Nat} {Bx : Nat} {zx : Int} (Hx : IsW zx Bx (a.eval (.tmp i)) w) {By : Nat} {zy : Int} (Hy : IsW zy By (a.eval (.tmp j)) w) (hL : Bx + By ≤ 100000) :
    Does Try.prog { dst, op := .call { callee := .value (.func 24), args := #[.tmp i, .tmp j], argTypes := ats }, type := ty, pos, after, guard } a.eval w fun v w' => Below w.heap.size w w' ∧ (OutW (zx * zy) (3 * Bx + 3 * By + 1)) v w' := by
  obtain ⟨nx, ax, mx, cx, xs, ex, Ax, Lx⟩ := Hx
  obtain ⟨ny, ay, my, cy, ys, ey, Ay, Ly⟩ := Hy
  refine does_call has_r2mul _ (by simp only [List.map_toArray, List.map_cons, List.map_nil, ex, ey]) ((r2mul_z w Bx _ _ _ _ _ _ Ax Lx By _ _ _ _ _ _ Ay Ly hL).mono ?_)
  rintro e w' ⟨v, rfl, h1, hb⟩
  exact ⟨_, rfl, hb, h1⟩

set_option maxRecDepth 20000 in
set_option maxHeartbeats 2000000 in
theorem r2cmp_z (w : World) (Bx : Nat) (nx : Bool) (ax : Option Addr) (mx cx : Nat) (xs : List Int) (zx : Int) (Ax : Ag w nx ax mx cx xs zx) (Lx : xs.length ≤ Bx) (By : Nat) (ny : Bool) (ay : Option Addr) (my cy : Nat) (ys : List Int) (zy : Int) (Ay : Ag w ny ay my cy ys zy) (Ly : ys.length ≤ By) (hL : Bx + By ≤ 100000) :
    Calls Try.prog 31 #[.agg #[.bool nx, .slice ax mx cx], .agg #[.bool ny, .slice ay my cy]] w fun e w' => ∃ v, e = .returned v ∧ (Eqs (.int .i64 (cmpI zx zy))) v w' ∧ Below w.heap.size w w' := by
  go_enter Try.func31, Try.ntmps31
  generalize hA : (Act.mk _ _) = aa
  have hn : aa.tmps.size = 10 := by rw [← hA]; rfl
  have hd : aa.defers = [] := by rw [← hA]
  have f0 : aa.eval (.tmp 0) = .agg #[.bool nx, .slice ax mx cx] := by rw [← hA]; rfl
  have f1 : aa.eval (.tmp 1) = .agg #[.bool ny, .slice ay my cy] := by rw [← hA]; rfl
  clear hA
  have HB : Below w.heap.size w w := Below.refl _ _
  have Tx := Ax.sl
  have Ty := Ay.sl
  refine wp_seq ?_
  refine region4 [some 2, some 3, some 4] [(fun _ _ => True), (fun _ _ => True), Eqs ((.int .i64 0))] [⟨W2, some 0, 0, 2, .agg #[.bool nx, .slice ax mx cx], none, []⟩, ⟨W2, some 1, 0, 3, .agg #[.bool ny, .slice ay my cy], none, []⟩] [] (by kernel_rfl) hn rfl (by kernel_rfl) (by kernel_rfl) (by kernel_rfl) (by kernel_rfl) (by kernel_rfl) (by kernel_rfl) ⟨True.mono4, True.mono4, Eqs.mono4 _, trivial⟩ (ok_cons W2ok (ok_cons W2ok ok_nil)) (IsOld.all (bx := [⟨W2, some 0, 0, 2, .agg #[.bool nx, .slice ax mx cx], none, []⟩, ⟨W2, some 1, 0, 3, .agg #[.bool ny, .slice ay my cy], none, []⟩]) ⟨someNe, someNe, trivial⟩) (DisOld.all (bx := [⟨W2, some 0, 0, 2, .agg #[.bool nx, .slice ax mx cx], none, []⟩, ⟨W2, some 1, 0, 3, .agg #[.bool ny, .slice ay my cy], none, []⟩]) ⟨someNe, someNe, trivial⟩) ?_ ?_
  · exact ⟨.alloc 0 _ rfl rfl (.inr ⟨_, rfl, w2_cs, fun a_ hR => (hR 0 rfl).trans f0⟩) rfl rfl rfl rfl rfl,
      .alloc 1 _ rfl rfl (.inr ⟨_, rfl, w2_cs, fun a_ hR => (hR 1 rfl).trans f1⟩) rfl rfl rfl rfl rfl,
      .norm 4 rfl rfl rfl (fun a_ w_ hn_ hBt hr hR hD hO hS => op_assign rfl),
      trivial⟩
  · intro a1 w1 gs1 hn1 hd1 hBt hr hR hP hX hU
    replace hn := hn1; replace hd := hd1.trans hd
    have b2 : BoxV W2 w1 (gs1 0) (.agg #[.bool nx, .slice ax mx cx]) := (hX 0 _ rfl).2.2.2
    have f2 := (hX 0 _ rfl).1
    have u2 : w.heap.size ≤ gs1 0 := Nat.le_trans HB.size ((hX 0 _ rfl).2.2.1 (by simp))
    have b3 : BoxV W2 w1 (gs1 1) (.agg #[.bool ny, .slice ay my cy]) := (hX 1 _ rfl).2.2.2
    have f3 := (hX 1 _ rfl).1
    have u3 : w.heap.size ≤ gs1 1 := Nat.le_trans HB.size ((hX 1 _ rfl).2.2.1 (by simp))
    have e4 : a1.eval (.tmp 4) = (.int .i64 0) := hP 2 (by decide)
    have f4 := e4
    replace Ax := Ax.rl hr
    replace Tx := Tx.rl hr
    replace Ay := Ay.rl hr
    replace Ty := Ty.rl hr
    replace HB := HB.trans (hBt.below HB.size (UpOld.all (bx := [⟨W2, some 0, 0, 2, .agg #[.bool nx, .slice ax mx cx], none, []⟩, ⟨W2, some 1, 0, 3, .agg #[.bool ny, .slice ay my cy], none, []⟩]) ⟨someNe, someNe, trivial⟩))
    clear hBt hr hR hP hX hU
    refine wp_seq ?_
    refine region4 [some 5, some 6, some 7, some 8, some 9, some 4] [Eqs (.agg #[.bool nx, .slice ax mx cx]), OutN (zx) (3 * (Bx)), Eqs (.agg #[.bool ny, .slice ay my cy]), OutN (zy) (3 * (By)), Eqs (.int .i64 (cmpI zx zy)), Eqs (.int .i64 (cmpI zx zy))] [] [] (by kernel_rfl) hn rfl (by kernel_rfl) (by kernel_rfl) (by kernel_rfl) (by kernel_rfl) (by kernel_rfl) (by kernel_rfl) ⟨Eqs.mono4 _, OutN.mono4 _ _, Eqs.mono4 _, OutN.mono4 _ _, Eqs.mono4 _, Eqs.mono4 _, trivial⟩ ok_nil (IsOld.all (bx := []) trivial) (DisOld.all (bx := []) trivial) ?_ ?_
    · exact ⟨.norm 5 rfl rfl rfl (fun a_ w_ hn_ hBt hr hR hD hO hS => op_loadv W2ok ((hR 2 rfl).trans f2) (b2.keep hBt trivial)),
        .norm 6 rfl rfl rfl (fun a_ w_ hn_ hBt hr hR hD hO hS => op_nof (L := Bx) (isw_eq (show a_.eval (.tmp 5) = .agg #[.bool nx, .slice ax mx cx] from hD 0 rfl) (Ax.rl hr) Lx) (by omega)),
        .norm 7 rfl rfl rfl (fun a_ w_ hn_ hBt hr hR hD hO hS => op_loadv W2ok ((hR 3 rfl).trans f3) (b3.keep hBt trivial)),
        .norm 8 rfl rfl rfl (fun a_ w_ hn_ hBt hr hR hD hO hS => op_nof (L := By) (isw_eq (show a_.eval (.tmp 7) = .agg #[.bool ny, .slice ay my cy] from hD 2 rfl) (Ay.rl hr) Ly) (by omega)),
        .norm 9 rfl rfl rfl (fun a_ w_ hn_ hBt hr hR hD hO hS => op_ncmp (show OutN (zx) (3 * (Bx)) (a_.eval (.tmp 6)) w_ from hD 1 rfl) (show OutN (zy) (3 * (By)) (a_.eval (.tmp 8)) w_ from hD 3 rfl)),
        .norm 4 rfl rfl rfl (fun a_ w_ hn_ hBt hr hR hD hO hS => op_assign (show a_.eval (.tmp 9) = .int .i64 (cmpI zx zy) from hD 4 rfl)),
        trivial⟩
    · intro a2 w2 gs2 hn2 hd2 hBt hr hR hP hX hU
      replace hn := hn2; replace hd := hd2.trans hd
      have e4 : a2.eval (.tmp 4) = .int .i64 (cmpI zx zy) := hP 5 (by decide)
      have f4 := e4
      replace Ax := Ax.rl hr
      replace Tx := Tx.rl hr
      replace Ay := Ay.rl hr
      replace Ty := Ty.rl hr
      replace HB := HB.trans (hBt.below HB.size (UpOld.all (bx := []) trivial))
      clear hBt hr hR hP hX hU
      refine wp_ret ?_
      repeat (first | refine then_ret ?_ | refine scope_ret ?_ | refine block_ret ?_)
      exact bodyPost_ret (v := .int .i64 (cmpI zx zy)) (res_t rfl f4) hd ⟨_, rfl, rfl, HB⟩

theorem has_r2cmp : Has Try.prog 31 := by unfold Has; kernel_rfl
theorem op_r2cmp {dst : Option Tmp} {ty : TypeId} {pos : String} {after : Array Edge} {guard : Option (Nat × Bool)} {a : Act} {w : World} {ats : Array TypeId} {i j : Nat} {Bx : Nat} {zx : Int} (Hx : IsW zx Bx (a.eval (.tmp i)) w) {By : Nat} {zy : Int} (Hy : IsW zy By (a.eval (.tmp j)) w) (hL : Bx + By ≤ 100000) :
    Does Try.prog { dst, op := .call { callee := .value (.func 31), args := #[.tmp i, .tmp j], argTypes := ats }, type := ty, pos, after, guard } a.eval w fun v w' => Below w.heap.size w w' ∧ (Eqs (.int .i64 (cmpI zx zy))) v w' := by
  obtain ⟨nx, ax, mx, cx, xs, ex, Ax, Lx⟩ := Hx
  obtain ⟨ny, ay, my, cy, ys, ey, Ay, Ly⟩ := Hy
  refine does_call has_r2cmp _ (by simp only [List.map_toArray, List.map_cons, List.map_nil, ex, ey]) ((r2cmp_z w Bx _ _ _ _ _ _ Ax Lx By _ _ _ _ _ _ Ay Ly hL).mono ?_)
  rintro e w' ⟨v, rfl, h1, hb⟩
  exact ⟨_, rfl, hb, h1⟩

end Lm
end Go.Proofs.Ytjhhjefobbhdlaa

namespace Go.Proofs.Ytjhhjefobbhdlaa
namespace Lm
open Go Go.RowKit

section
variable {dst : Option Tmp} {ty : TypeId} {pos : String} {after : Array Edge} {guard : Option (Nat × Bool)} {a : Act} {w : World} {ats : Array TypeId} {i k g : Nat} {x z u v : Int} {L : Nat}
theorem op_nlimbsa (h : OutN z L (a.eval (.tmp i)) w) (hL : L ≤ 1000000) :
    Does Try.prog { dst, op := .call { callee := .value (.func 76), args := #[.tmp i], argTypes := ats }, type := ty, pos, after, guard } a.eval w fun v w' => Below w.heap.size w w' ∧ OutL (z.natAbs : Int) L v w' := by
  obtain ⟨ng, ao, cap, rs, e1, W, l⟩ := h
  have hb := W.bound l
  refine does_call has_nlimbs _ (by simp only [List.map_toArray, List.map_cons, List.map_nil, e1]) ((Dm.limbs_any w ng ao cap rs _ W.1 L hb hL (by omega)).mono ?_)
  rintro e w' ⟨v, rfl, I, hb'⟩
  obtain ⟨ao, cap, rs, rfl, G⟩ := I.got
  exact ⟨_, rfl, hb', _, _, _, rfl, G, canon_len G.canon (by rw [G.val]; exact hb)⟩
theorem fa_ndig (w : World) : (Instr.fieldAt 61 (.pointer (some ⟨g, 0, none⟩)) 1).run Try.prog w = .ok (.pointer (some ⟨g, 1, none⟩)) w := by go_simp
theorem op_ldndig {ng : Bool} {ao : Option Addr} {n c : Nat} (hp : a.eval (.tmp k) = .pointer (some ⟨g, 1, none⟩)) (hb : BoxV N2 w g (.agg #[.bool ng, .slice ao n c])) :
    Does Try.prog { dst, op := .load 59 (.tmp k), type := ty, pos, after, guard } a.eval w fun v' w' => Below w.heap.size w w' ∧ Eqs (.slice ao n c) v' w' := by
  obtain ⟨b1, b2, b3, b4⟩ := (n2_row hb).facts
  refine does_load (v := .slice ao n c) ?_ ⟨Below.refl _ _, rfl⟩
  rw [hp]
  go_simp
theorem op_leni {ao : Option Addr} {n c : Nat} (h : a.eval (.tmp i) = .slice ao n c) : Does Try.prog { dst, op := .call { callee := .builtin .len, args := #[.tmp i], argTypes := #[59] }, type := ty, pos, after, guard } a.eval w fun v' w' => Below w.heap.size w w' ∧ Eqs (.int .i64 n) v' w' := by
  have e : (execOp a.eval { dst, op := .call { callee := .builtin .len, args := #[.tmp i], argTypes := #[59] }, type := ty, pos, after, guard }).run Try.prog w = .ok (.value (.int .i64 n)) w := by
    have h' : a.tmps[i]?.getD undef = .slice ao n c := by simpa [Act.eval] using h
    simp [go_sem, h']
  refine ⟨?_⟩
  unfold Turns
  rw [e]
  exact ⟨Below.refl _ _, rfl⟩
theorem op_lenL {m : Nat} (h : OutL x L (a.eval (.tmp i)) w) (hm : IsLen x m) : Does Try.prog { dst, op := .call { callee := .builtin .len, args := #[.tmp i], argTypes := #[22] }, type := ty, pos, after, guard } a.eval w fun v' w' => Below w.heap.size w w' ∧ Eqs (.int .i64 m) v' w' := by
  obtain ⟨ao, cap, rs, e, G, l⟩ := h
  have hl : rs.length = m := isLen_one ⟨rs, G.canon, G.val, rfl⟩ hm
  exact (op_len e).mono (fun v' w' ⟨hb, e⟩ => ⟨hb, by rw [Eqs, show v' = _ from e, hl]⟩)
theorem op_lssk (h1 : a.eval (.tmp i) = .int .i64 u) :
    Does Try.prog { dst, op := .binOp .lss 3 (.tmp i) (.const (.int .i64 v)) 3, type := ty, pos, after, guard } a.eval w fun v' w' => Below w.heap.size w w' ∧ Eqs (.bool (decide (u < v))) v' w' := by
  refine does_bin (v := .bool (decide (u < v))) ?_ ?_ ⟨Below.refl _ _, rfl⟩
  · rw [h1]; simp [go_sem, Act.eval]
  · rw [h1]; simp [go_sem, Act.eval]
end

set_option maxRecDepth 20000 in
set_option maxHeartbeats 2000000 in
theorem nlong_z (w : World) (Bx : Nat) (nx : Bool) (ax : Option Addr) (cx : Nat) (xs : List Int) (zx : Int) (Gx : Dm.Wh w nx ax cx xs zx) (Lx : xs.length ≤ Bx) (hL : Bx ≤ 1000000) (m : Nat) (hm : IsLen (zx.natAbs : Int) m) :
    Calls Try.prog 52 #[.agg #[.bool nx, .slice ax xs.length cx]] w fun e w' => ∃ v, e = .returned v ∧ (Eqs (.int .i64 (m : Int))) v w' ∧ Below w.heap.size w w' := by
  go_enter Try.func52, Try.ntmps52
  generalize hA : (Act.mk _ _) = aa
  have hn : aa.tmps.size = 13 := by rw [← hA]; rfl
  have hd : aa.defers = [] := by rw [← hA]
  have f0 : aa.eval (.tmp 0) = .agg #[.bool nx, .slice ax xs.length cx] := by rw [← hA]; rfl
  clear hA
  have HB : Below w.heap.size w w := Below.refl _ _
  refine wp_seq ?_
  refine region4 [some 1, some 2] [(fun _ _ => True), Eqs ((.int .i64 0))] [⟨N2, some 0, 0, 1, .agg #[.bool nx, .slice ax xs.length cx], none, []⟩] [] (by kernel_rfl) hn rfl (by kernel_rfl) (by kernel_rfl) (by kernel_rfl) (by kernel_rfl) (by kernel_rfl) (by kernel_rfl) ⟨True.mono4, Eqs.mono4 _, trivial⟩ (ok_cons N2ok ok_nil) (IsOld.all (bx := [⟨N2, some 0, 0, 1, .agg #[.bool nx, .slice ax xs.length cx], none, []⟩]) ⟨someNe, trivial⟩) (DisOld.all (bx := [⟨N2, some 0, 0, 1, .agg #[.bool nx, .slice ax xs.length cx], none, []⟩]) ⟨someNe, trivial⟩) ?_ ?_
  · exact ⟨.alloc 0 _ rfl rfl (.inr ⟨_, rfl, n2_cs, fun a_ hR => (hR 0 rfl).trans f0⟩) rfl rfl rfl rfl rfl,
      .norm 2 rfl rfl rfl (fun a_ w_ hn_ hBt hr hR hD hO hS => op_assign rfl),
      trivial⟩
  · intro a1 w1 gs1 hn1 hd1 hBt hr hR hP hX hU
    replace hn := hn1; replace hd := hd1.trans hd
    have b1 : BoxV N2 w1 (gs1 0) (.agg #[.bool nx, .slice ax xs.length cx]) := (hX 0 _ rfl).2.2.2
    have f1 := (hX 0 _ rfl).1
    have u1 : w.heap.size ≤ gs1 0 := Nat.le_trans HB.size ((hX 0 _ rfl).2.2.1 (by simp))
    have e2 : a1.eval (.tmp 2) = (.int .i64 0) := hP 1 (by decide)
    have f2 := e2
    replace Gx := Gx.rl hr
    replace HB := HB.trans (hBt.below HB.size (UpOld.all (bx := [⟨N2, some 0, 0, 1, .agg #[.bool nx, .slice ax xs.length cx], none, []⟩]) ⟨someNe, trivial⟩))
    clear hBt hr hR hP hX hU
    refine wp_seq ?_
    refine wp_seq ?_
    refine region4 [some 3, some 4, some 5, some 6] [Eqs (.pointer (some ⟨gs1 0, 1, none⟩)), Eqs (.slice ax xs.length cx), Eqs (.int .i64 (xs.length : Int)), Eqs (.bool (decide ((xs.length : Int) < 3)))] [] [] (by kernel_rfl) hn rfl (by kernel_rfl) (by kernel_rfl) (by kernel_rfl) (by kernel_rfl) (by kernel_rfl) (by kernel_rfl) ⟨Eqs.mono4 _, Eqs.mono4 _, Eqs.mono4 _, Eqs.mono4 _, trivial⟩ ok_nil (IsOld.all (bx := []) trivial) (DisOld.all (bx := []) trivial) ?_ ?_
    · exact ⟨.norm 3 rfl rfl rfl (fun a_ w_ hn_ hBt hr hR hD hO hS => op_faN fa_ndig ((hR 1 rfl).trans f1)),
        .norm 4 rfl rfl rfl (fun a_ w_ hn_ hBt hr hR hD hO hS => op_ldndig (show a_.eval (.tmp 3) = .pointer (some ⟨gs1 0, 1, none⟩) from hD 0 rfl) (b1.keep hBt trivial)),
        .norm 5 rfl rfl rfl (fun a_ w_ hn_ hBt hr hR hD hO hS => op_leni (show a_.eval (.tmp 4) = .slice ax xs.length cx from hD 1 rfl)),
        .norm 6 rfl rfl rfl (fun a_ w_ hn_ hBt hr hR hD hO hS => op_lssk (show a_.eval (.tmp 5) = .int .i64 (xs.length : Int) from hD 2 rfl)),
        trivial⟩
    · intro a2 w2 gs2 hn2 hd2 hBt hr hR hP hX hU
      replace hn := hn2; replace hd := hd2.trans hd
      replace b1 := b1.keep hBt trivial
      replace f1 := (hR 1 rfl).trans f1
      replace f2 := (hR 2 rfl).trans f2
      have e6 : a2.eval (.tmp 6) = .bool (decide ((xs.length : Int) < 3)) := hP 3 (by decide)
      have f6 := e6
      replace Gx := Gx.rl hr
      replace HB := HB.trans (hBt.below HB.size (UpOld.all (bx := []) trivial))
      clear hBt hr hR hP hX hU
      refine wp_cond_split f6 (fun hc6 => ?_) (fun hc6 => ?_)
      · skip
        refine wp_seq ?_
        refine region4 [some 7, some 8, some 9, some 2] [Eqs (.agg #[.bool nx, .slice ax xs.length cx]), OutL (((zx).natAbs : Int)) (Bx), Eqs (.int .i64 (m : Int)), Eqs (.int .i64 (m : Int))] [] [] (by kernel_rfl) hn rfl (by kernel_rfl) (by kernel_rfl) (by kernel_rfl) (by kernel_rfl) (by kernel_rfl) (by kernel_rfl) ⟨Eqs.mono4 _, OutL.mono4 _ _, Eqs.mono4 _, Eqs.mono4 _, trivial⟩ ok_nil (IsOld.all (bx := []) trivial) (DisOld.all (bx := []) trivial) ?_ ?_
        · exact ⟨.norm 7 rfl rfl rfl (fun a_ w_ hn_ hBt hr hR hD hO hS => op_loadv N2ok ((hR 1 rfl).trans f1) (b1.keep hBt trivial)),
            .norm 8 rfl rfl rfl (fun a_ w_ hn_ hBt hr hR hD hO hS => op_nlimbsa (outn_eq (show a_.eval (.tmp 7) = .agg #[.bool nx, .slice ax xs.length cx] from hD 0 rfl) (Gx.rl hr) Lx) (by omega)),
            .norm 9 rfl rfl rfl (fun a_ w_ hn_ hBt hr hR hD hO hS => op_lenL (show OutL (((zx).natAbs : Int)) (Bx) (a_.eval (.tmp 8)) w_ from hD 1 rfl) hm),
            .norm 2 rfl rfl rfl (fun a_ w_ hn_ hBt hr hR hD hO hS => op_assign (show a_.eval (.tmp 9) = .int .i64 (m : Int) from hD 2 rfl)),
            trivial⟩
        · intro a3 w3 gs3 hn3 hd3 hBt hr hR hP hX hU
          replace hn := hn3; replace hd := hd3.trans hd
          replace b1 := b1.keep hBt trivial
          replace f1 := (hR 1 rfl).trans f1
          have e2 : a3.eval (.tmp 2) = .int .i64 (m : Int) := hP 3 (by decide)
          have f2 := e2
          replace Gx := Gx.rl hr
          replace HB := HB.trans (hBt.below HB.size (UpOld.all (bx := []) trivial))
          clear hBt hr hR hP hX hU
          refine wp_ret ?_
          repeat (first | refine then_ret ?_ | refine scope_ret ?_ | refine block_ret ?_)
          exact bodyPost_ret (v := .int .i64 (m : Int)) (res_t rfl f2) hd ⟨_, rfl, rfl, HB⟩
      · skip
        refine wp_skip ?_
        refine wp_seq ?_
        refine region4 [some 10, some 11, some 12, some 2] [Eqs (.agg #[.bool nx, .slice ax xs.length cx]), OutL (((zx).natAbs : Int)) (Bx), Eqs (.int .i64 (m : Int)), Eqs (.int .i64 (m : Int))] [] [] (by kernel_rfl) hn rfl (by kernel_rfl) (by kernel_rfl) (by kernel_rfl) (by kernel_rfl) (by kernel_rfl) (by kernel_rfl) ⟨Eqs.mono4 _, OutL.mono4 _ _, Eqs.mono4 _, Eqs.mono4 _, trivial⟩ ok_nil (IsOld.all (bx := []) trivial) (DisOld.all (bx := []) trivial) ?_ ?_
        · exact ⟨.norm 10 rfl rfl rfl (fun a_ w_ hn_ hBt hr hR hD hO hS => op_loadv N2ok ((hR 1 rfl).trans f1) (b1.keep hBt trivial)),
            .norm 11 rfl rfl rfl (fun a_ w_ hn_ hBt hr hR hD hO hS => op_nlimbsa (outn_eq (show a_.eval (.tmp 10) = .agg #[.bool nx, .slice ax xs.length cx] from hD 0 rfl) (Gx.rl hr) Lx) (by omega)),
            .norm 12 rfl rfl rfl (fun a_ w_ hn_ hBt hr hR hD hO hS => op_lenL (show OutL (((zx).natAbs : Int)) (Bx) (a_.eval (.tmp 11)) w_ from hD 1 rfl) hm),
            .norm 2 rfl rfl rfl (fun a_ w_ hn_ hBt hr hR hD hO hS => op_assign (show a_.eval (.tmp 12) = .int .i64 (m : Int) from hD 2 rfl)),
            trivial⟩
        · intro a4 w4 gs4 hn4 hd4 hBt hr hR hP hX hU
          replace hn := hn4; replace hd := hd4.trans hd
          have e2 : a4.eval (.tmp 2) = .int .i64 (m : Int) := hP 3 (by decide)
          have f2 := e2
          replace Gx := Gx.rl hr
          replace HB := HB.trans (hBt.below HB.size (UpOld.all (bx := []) trivial))
          clear hBt hr hR hP hX hU
          refine wp_ret ?_
          repeat (first | refine then_ret ?_ | refine scope_ret ?_ | refine block_ret ?_)
          exact bodyPost_ret (v := .int .i64 (m : Int)) (res_t rfl f2) hd ⟨_, rfl, rfl, HB⟩

theorem has_nlong : Has Try.prog 52 := by unfold Has; kernel_rfl
theorem op_nlong {dst : Option Tmp} {ty : TypeId} {pos : String} {after : Array Edge} {guard : Option (Nat × Bool)} {a : Act} {w : World} {ats : Array TypeId} {i : Nat} {Bx : Nat} {zx : Int} (Hx : OutN zx Bx (a.eval (.tmp i)) w) (hL : Bx ≤ 1000000) (m : Nat) (hm : IsLen (zx.natAbs : Int) m) :
    Does Try.prog { dst, op := .call { callee := .value (.func 52), args := #[.tmp i], argTypes := ats }, type := ty, pos, after, guard } a.eval w fun v w' => Below w.heap.size w w' ∧ (Eqs (.int .i64 (m : Int))) v w' := by
  obtain ⟨nx, ax, cx, xs, ex, Gx, Lx⟩ := Hx
  refine does_call has_nlong _ (by simp only [List.map_toArray, List.map_cons, List.map_nil, ex]) ((nlong_z w Bx _ _ _ _ _ Gx Lx hL m hm).mono ?_)
  rintro e w' ⟨v, rfl, h1, hb⟩
  exact ⟨_, rfl, hb, h1⟩

set_option maxRecDepth 20000 in
set_option maxHeartbeats 2000000 in
theorem r2limbs_z (w : World) (Bx : Nat) (nx : Bool) (ax : Option Addr) (mx cx : Nat) (xs : List Int) (zx : Int) (Ax : Ag w nx ax mx cx xs zx) (Lx : xs.length ≤ Bx) (hL : Bx ≤ 100000) (m : Nat) (hm : IsLen (zx.natAbs : Int) m) :
    Calls Try.prog 17 #[.agg #[.bool nx, .slice ax mx cx]] w fun e w' => ∃ v, e = .returned v ∧ (Eqs (.int .i64 (m : Int))) v w' ∧ Below w.heap.size w w' := by
  go_enter Try.func17, Try.ntmps17
  generalize hA : (Act.mk _ _) = aa
  have hn : aa.tmps.size = 6 := by rw [← hA]; rfl
  have hd : aa.defers = [] := by rw [← hA]
  have f0 : aa.eval (.tmp 0) = .agg #[.bool nx, .slice ax mx cx] := by rw [← hA]; rfl
  clear hA
  have HB : Below w.heap.size w w := Below.refl _ _
  have Tx := Ax.sl
  refine wp_seq ?_
  refine region4 [some 1, some 2] [(fun _ _ => True), Eqs ((.int .i64 0))] [⟨W2, some 0, 0, 1, .agg #[.bool nx, .slice ax mx cx], none, []⟩] [] (by kernel_rfl) hn rfl (by kernel_rfl) (by kernel_rfl) (by kernel_rfl) (by kernel_rfl) (by kernel_rfl) (by kernel_rfl) ⟨True.mono4, Eqs.mono4 _, trivial⟩ (ok_cons W2ok ok_nil) (IsOld.all (bx := [⟨W2, some 0, 0, 1, .agg #[.bool nx, .slice ax mx cx], none, []⟩]) ⟨someNe, trivial⟩) (DisOld.all (bx := [⟨W2, some 0, 0, 1, .agg #[.bool nx, .slice ax mx cx], none, []⟩]) ⟨someNe, trivial⟩) ?_ ?_
  · exact ⟨.alloc 0 _ rfl rfl (.inr ⟨_, rfl, w2_cs, fun a_ hR => (hR 0 rfl).trans f0⟩) rfl rfl rfl rfl rfl,
      .norm 2 rfl rfl rfl (fun a_ w_ hn_ hBt hr hR hD hO hS => op_assign rfl),
      trivial⟩
  · intro a1 w1 gs1 hn1 hd1 hBt hr hR hP hX hU
    replace hn := hn1; replace hd := hd1.trans hd
    have b1 : BoxV W2 w1 (gs1 0) (.agg #[.bool nx, .slice ax mx cx]) := (hX 0 _ rfl).2.2.2
    have f1 := (hX 0 _ rfl).1
    have u1 : w.heap.size ≤ gs1 0 := Nat.le_trans HB.size ((hX 0 _ rfl).2.2.1 (by simp))
    have e2 : a1.eval (.tmp 2) = (.int .i64 0) := hP 1 (by decide)
    have f2 := e2
    replace Ax := Ax.rl hr
    replace Tx := Tx.rl hr
    replace HB := HB.trans (hBt.below HB.size (UpOld.all (bx := [⟨W2, some 0, 0, 1, .agg #[.bool nx, .slice ax mx cx], none, []⟩]) ⟨someNe, trivial⟩))
    clear hBt hr hR hP hX hU
    refine wp_seq ?_
    refine region4 [some 3, some 4, some 5, some 2] [Eqs (.agg #[.bool nx, .slice ax mx cx]), OutN (zx) (3 * (Bx)), Eqs (.int .i64 (m : Int)), Eqs (.int .i64 (m : Int))] [] [] (by kernel_rfl) hn rfl (by kernel_rfl) (by kernel_rfl) (by kernel_rfl) (by kernel_rfl) (by kernel_rfl) (by kernel_rfl) ⟨Eqs.mono4 _, OutN.mono4 _ _, Eqs.mono4 _, Eqs.mono4 _, trivial⟩ ok_nil (IsOld.all (bx := []) trivial) (DisOld.all (bx := []) trivial) ?_ ?_
    · exact ⟨.norm 3 rfl rfl rfl (fun a_ w_ hn_ hBt hr hR hD hO hS => op_loadv W2ok ((hR 1 rfl).trans f1) (b1.keep hBt trivial)),
        .norm 4 rfl rfl rfl (fun a_ w_ hn_ hBt hr hR hD hO hS => op_nof (L := Bx) (isw_eq (show a_.eval (.tmp 3) = .agg #[.bool nx, .slice ax mx cx] from hD 0 rfl) (Ax.rl hr) Lx) (by omega)),
        .norm 5 rfl rfl rfl (fun a_ w_ hn_ hBt hr hR hD hO hS => op_nlong (show OutN (zx) (3 * (Bx)) (a_.eval (.tmp 4)) w_ from hD 1 rfl) (by omega) m hm),
        .norm 2 rfl rfl rfl (fun a_ w_ hn_ hBt hr hR hD hO hS => op_assign (show a_.eval (.tmp 5) = .int .i64 (m : Int) from hD 2 rfl)),
        trivial⟩
    · intro a2 w2 gs2 hn2 hd2 hBt hr hR hP hX hU
      replace hn := hn2; replace hd := hd2.trans hd
      have e2 : a2.eval (.tmp 2) = .int .i64 (m : Int) := hP 3 (by decide)
      have f2 := e2
      replace Ax := Ax.rl hr
      replace Tx := Tx.rl hr
      replace HB := HB.trans (hBt.below HB.size (UpOld.all (bx := []) trivial))
      clear hBt hr hR hP hX hU
      refine wp_ret ?_
      repeat (first | refine then_ret ?_ | refine scope_ret ?_ | refine block_ret ?_)
      exact bodyPost_ret (v := .int .i64 (m : Int)) (res_t rfl f2) hd ⟨_, rfl, rfl, HB⟩

theorem has_r2limbs : Has Try.prog 17 := by unfold Has; kernel_rfl
theorem op_r2limbs {dst : Option Tmp} {ty : TypeId} {pos : String} {after : Array Edge} {guard : Option (Nat × Bool)} {a : Act} {w : World} {ats : Array TypeId} {i : Nat} {Bx : Nat} {zx : Int} (Hx : IsW zx Bx (a.eval (.tmp i)) w) (hL : Bx ≤ 100000) (m : Nat) (hm : IsLen (zx.natAbs : Int) m) :
    Does Try.prog { dst, op := .call { callee := .value (.func 17), args := #[.tmp i], argTypes := ats }, type := ty, pos, after, guard } a.eval w fun v w' => Below w.heap.size w w' ∧ (Eqs (.int .i64 (m : Int))) v w' := by
  obtain ⟨nx, ax, mx, cx, xs, ex, Ax, Lx⟩ := Hx
  refine does_call has_r2limbs _ (by simp only [List.map_toArray, List.map_cons, List.map_nil, ex]) ((r2limbs_z w Bx _ _ _ _ _ _ Ax Lx hL m hm).mono ?_)
  rintro e w' ⟨v, rfl, h1, hb⟩
  exact ⟨_, rfl, hb, h1⟩

end Lm
end Go.Proofs.Ytjhhjefobbhdlaa

namespace Go.Proofs.Ytjhhjefobbhdlaa
namespace Lm
open Go.RowKit
open Dm (u64 u64ok)

/-- Is a number an int, and which? -/
def inI (z : Int) : Bool := decide (-9223372036854775808 ≤ z ∧ z ≤ 9223372036854775807)
def intI (z : Int) : Int := if -9223372036854775808 ≤ z ∧ z ≤ 9223372036854775807 then z else 0

theorem neg_u64 {V : Int} (h0 : 0 ≤ V) (h1 : V ≤ 9223372036854775808) : IntKind.i64.wrap (IntKind.u64.wrap (-V)) = -V := by
  simp only [IntKind.wrap, IntKind.signed, IntKind.bits]
  simp
  omega

set_option maxRecDepth 20000 in
set_option maxHeartbeats 1000000 in
theorem wint_any (w : World) (ng : Bool) (ao : Option Addr) (n cap : Nat) (zs : List Int) (h : Sl w (.slice ao n cap) zs) :
    Calls Try.prog 10 #[.agg #[.bool ng, .slice ao n cap]] w fun e w' => e = .returned (.tuple #[.int .i64 (intI (sg ng (val zs))), .bool (inI (sg ng (val zs)))]) ∧ Below w.heap.size w w' := by
  obtain ⟨w0, e0, bx, hb0, hs0⟩ := boxed0 w ng (.slice ao n cap)
  have E0 := hide e0
  have h0 := h.below hb0
  have hu := (val_bounds h.parts.2.2.2).1
  have KU := hide (uint_any w0 ao n cap zs h0)
  clear e0 hs0 h h0
  generalize val zs = V at hu KU
  by_cases hA : V < 18446744073709551616
  · have e1 : u64 V = V := by simp [u64, hA]
    have e2 : u64ok V = true := by simp [u64ok, hA]
    rw [e1, e2] at KU
    clear e1 e2
    cases ng with
    | true =>
      by_cases hc : V ≤ 9223372036854775808
      · have hw := neg_u64 hu hc
        have R1 : Hid (intI (sg true V) = -V) := by show _ = _; simp [intI, sg]; omega
        have R2 : Hid (inI (sg true V) = true) := by show _ = _; simp [inI, sg]; omega
        go_enter Try.func10, Try.ntmps10
        go_wp2_with fail
        rw [E0.out]
        obtain ⟨c0, c1, f0, f1⟩ := bx.facts
        refine (KU.out).mono ?_
        rintro e w1 ⟨rfl, hb1⟩
        have bx1 := bx.below hb1
        clear c0 c1 f0 f1
        obtain ⟨c0, c1, f0, f1⟩ := bx1.facts
        go_wp2
        go_ret2
        rw [R1.out, R2.out]
        exact ⟨rfl, hb0.trans (hb1.mono hb0.size)⟩
      · have R1 : Hid (intI (sg true V) = 0) := by show _ = _; simp [intI, sg]; omega
        have R2 : Hid (inI (sg true V) = false) := by show _ = _; simp [inI, sg]; omega
        go_enter Try.func10, Try.ntmps10
        go_wp2_with fail
        rw [E0.out]
        obtain ⟨c0, c1, f0, f1⟩ := bx.facts
        refine (KU.out).mono ?_
        rintro e w1 ⟨rfl, hb1⟩
        have bx1 := bx.below hb1
        clear c0 c1 f0 f1
        obtain ⟨c0, c1, f0, f1⟩ := bx1.facts
        go_wp2
        go_ret2
        rw [R1.out, R2.out]
        exact ⟨rfl, hb0.trans (hb1.mono hb0.size)⟩
    | false =>
      by_cases hc : V ≤ 9223372036854775807
      · have hw : IntKind.i64.wrap V = V := by
          simp [IntKind.wrap, IntKind.bits, IntKind.signed]
          omega
        have R1 : Hid (intI (sg false V) = V) := by show _ = _; simp [intI, sg]; omega
        have R2 : Hid (inI (sg false V) = true) := by show _ = _; simp [inI, sg]; omega
        go_enter Try.func10, Try.ntmps10
        go_wp2_with fail
        rw [E0.out]
        obtain ⟨c0, c1, f0, f1⟩ := bx.facts
        refine (KU.out).mono ?_
        rintro e w1 ⟨rfl, hb1⟩
        have bx1 := bx.below hb1
        clear c0 c1 f0 f1
        obtain ⟨c0, c1, f0, f1⟩ := bx1.facts
        go_wp2
        go_ret2
        rw [R1.out, R2.out]
        exact ⟨rfl, hb0.trans (hb1.mono hb0.size)⟩
      · have R1 : Hid (intI (sg false V) = 0) := by show _ = _; simp [intI, sg]; omega
        have R2 : Hid (inI (sg false V) = false) := by show _ = _; simp [inI, sg]; omega
        go_enter Try.func10, Try.ntmps10
        go_wp2_with fail
        rw [E0.out]
        obtain ⟨c0, c1, f0, f1⟩ := bx.facts
        refine (KU.out).mono ?_
        rintro e w1 ⟨rfl, hb1⟩
        have bx1 := bx.below hb1
        clear c0 c1 f0 f1
        obtain ⟨c0, c1, f0, f1⟩ := bx1.facts
        go_wp2
        go_ret2
        rw [R1.out, R2.out]
        exact ⟨rfl, hb0.trans (hb1.mono hb0.size)⟩
  · have e1 : u64 V = 0 := by simp [u64, hA]
    have e2 : u64ok V = false := by simp [u64ok]; omega
    rw [e1, e2] at KU
    clear e1 e2
    have R1 : Hid (intI (sg ng V) = 0) := by show _ = _; cases ng <;> simp [intI, sg] <;> omega
    have R2 : Hid (inI (sg ng V) = false) := by show _ = _; cases ng <;> simp [inI, sg] <;> omega
    go_enter Try.func10, Try.ntmps10
    go_wp2_with fail
    rw [E0.out]
    obtain ⟨c0, c1, f0, f1⟩ := bx.facts
    refine (KU.out).mono ?_
    rintro e w1 ⟨rfl, hb1⟩
    have bx1 := bx.below hb1
    clear c0 c1 f0 f1
    obtain ⟨c0, c1, f0, f1⟩ := bx1.facts
    go_wp2
    go_ret2
    rw [R1.out, R2.out]
    exact ⟨rfl, hb0.trans (hb1.mono hb0.size)⟩

end Lm
end Go.Proofs.Ytjhhjefobbhdlaa

namespace Go.Proofs.Ytjhhjefobbhdlaa
namespace Lm
open Go Go.RowKit

theorem cmpI_nlt {x y : Int} (h : ¬ x < y) : ¬ cmpI x y < 0 := by
  rcases Int.lt_trichotomy x y with a | a | a
  · omega
  · rw [cmpI_eq a]; omega
  · rw [cmpI_gt a]; omega
theorem cmpI_ngt {x y : Int} (h : ¬ y < x) : ¬ 0 < cmpI x y := by
  rcases Int.lt_trichotomy x y with a | a | a
  · rw [cmpI_lt a]; omega
  · rw [cmpI_eq a]; omega
  · omega
theorem int_sg {w : World} {ng : Bool} {ao : Option Addr} {cap : Nat} {rs : List Int} {z : Int} (G : Dm.Wh w ng ao cap rs z) (h1 : ¬ z < -9223372036854775808) (h2 : ¬ 9223372036854775807 < z) : sg ng (Dm.val rs) = z ∧ (if ng then Dm.val rs ≤ 9223372036854775808 else Dm.val rs ≤ 9223372036854775807) := by
  have hv := G.1.2.2
  have hs := G.2
  rw [hv]
  cases ng <;> simp [sg] at * <;> omega
theorem dval_drop : ∀ (vs : List Int) (j : Nat), Dm.Limb vs → j < vs.length → Dm.val (vs.drop j) = vs.getD j 0 + 10000 * Dm.val (vs.drop (j + 1)) ∧ 0 ≤ vs.getD j 0 ∧ vs.getD j 0 < 10000
  | [], j, _, h => by simp at h
  | v :: vs, 0, hl, _ => by
    refine ⟨?_, ?_⟩
    · simp [Dm.val]
    · exact hl v List.mem_cons_self
  | v :: vs, j + 1, hl, h => by
    have := dval_drop vs j (fun z hz => hl z (List.mem_cons_of_mem _ hz)) (by simpa using h)
    simpa using this
theorem dval_nn : ∀ (vs : List Int), Dm.Limb vs → 0 ≤ Dm.val vs
  | [], _ => by simp [Dm.val]
  | v :: vs, hl => by
    have h1 := hl v List.mem_cons_self
    have h2 := dval_nn vs (fun z hz => hl z (List.mem_cons_of_mem _ hz))
    simp only [Dm.val]
    omega
theorem dlimb_drop {vs : List Int} (hl : Dm.Limb vs) (j : Nat) : Dm.Limb (vs.drop j) := fun z hz => hl z (List.mem_of_mem_drop hz)
theorem dval_le {vs : List Int} (hl : Dm.Limb vs) : ∀ j, j ≤ vs.length → Dm.val (vs.drop j) ≤ Dm.val vs
  | 0, _ => by simp
  | j + 1, h => by
    have h1 := dval_le hl j (by omega)
    have h2 := dval_drop vs j hl (by omega)
    have h3 := dval_nn _ (dlimb_drop hl (j + 1))
    omega
theorem int_step {vs : List Int} {j : Nat} {ng b : Bool} (hl : Dm.Limb vs) (hj : j < vs.length) (hb : ng = b) (HN : if ng then Dm.val vs ≤ 9223372036854775808 else Dm.val vs ≤ 9223372036854775807) :
    ((if b then -Dm.val (vs.drop (j + 1)) * 10000 - vs.getD j 0 else Dm.val (vs.drop (j + 1)) * 10000 + vs.getD j 0) = sg ng (Dm.val (vs.drop j))) ∧ (if b then -9223372036854775808 ≤ -Dm.val (vs.drop (j + 1)) * 10000 - vs.getD j 0 else Dm.val (vs.drop (j + 1)) * 10000 + vs.getD j 0 ≤ 9223372036854775807) ∧ 0 ≤ Dm.val (vs.drop (j + 1)) ∧ 0 ≤ vs.getD j 0 := by
  subst hb
  have h1 := dval_drop vs j hl hj
  have h2 := dval_nn _ (dlimb_drop hl (j + 1))
  have h3 := dval_le hl j (by omega)
  cases ng <;> simp [sg] at * <;> omega
theorem dcell {w : World} {ao : Option Addr} {n c b off : Nat} {zs : List Int} {j : Nat} (h : Dm.Sl w (.slice ao n c) zs) (e : ao = some ⟨b, off, none⟩) (hj : j < zs.length) : w.cell? ⟨b, off + j, none⟩ = some (.int .i64 (zs.getD j 0)) := by
  obtain ⟨b', off', e', hc⟩ := h.cells (by omega)
  rw [e] at e'
  simp only [Option.some.injEq, Addr.mk.injEq, and_true] at e'
  obtain ⟨rfl, rfl⟩ := e'
  exact hc j hj
section
variable {dst : Option Tmp} {ty : TypeId} {pos : String} {after : Array Edge} {guard : Option (Nat × Bool)} {a : Act} {w : World} {ats : Array TypeId} {i k g : Nat} {x z u v : Int} {L : Nat}
theorem op_lsst (h1 : a.eval (.tmp i) = .int .i64 u) (h : u < v) :
    Does Try.prog { dst, op := .binOp .lss 3 (.tmp i) (.const (.int .i64 v)) 3, type := ty, pos, after, guard } a.eval w fun v' w' => Below w.heap.size w w' ∧ Eqs (.bool true) v' w' := by
  have := op_lssk (dst := dst) (ty := ty) (pos := pos) (after := after) (guard := guard) (w := w) (v := v) h1
  rwa [decide_eq_true h] at this
theorem op_lssf (h1 : a.eval (.tmp i) = .int .i64 u) (h : ¬ u < v) :
    Does Try.prog { dst, op := .binOp .lss 3 (.tmp i) (.const (.int .i64 v)) 3, type := ty, pos, after, guard } a.eval w fun v' w' => Below w.heap.size w w' ∧ Eqs (.bool false) v' w' := by
  have := op_lssk (dst := dst) (ty := ty) (pos := pos) (after := after) (guard := guard) (w := w) (v := v) h1
  rwa [decide_eq_false h] at this
theorem op_gtrt (h1 : a.eval (.tmp i) = .int .i64 u) (h : v < u) :
    Does Try.prog { dst, op := .binOp .gtr 3 (.tmp i) (.const (.int .i64 v)) 3, type := ty, pos, after, guard } a.eval w fun v' w' => Below w.heap.size w w' ∧ Eqs (.bool true) v' w' := by
  have := op_gtrk (dst := dst) (ty := ty) (pos := pos) (after := after) (guard := guard) (w := w) (v := v) h1
  rwa [decide_eq_true h] at this
theorem op_gtrf (h1 : a.eval (.tmp i) = .int .i64 u) (h : ¬ v < u) :
    Does Try.prog { dst, op := .binOp .gtr 3 (.tmp i) (.const (.int .i64 v)) 3, type := ty, pos, after, guard } a.eval w fun v' w' => Below w.heap.size w w' ∧ Eqs (.bool false) v' w' := by
  have := op_gtrk (dst := dst) (ty := ty) (pos := pos) (after := after) (guard := guard) (w := w) (v := v) h1
  rwa [decide_eq_false h] at this
theorem op_geqk (h1 : a.eval (.tmp i) = .int .i64 u) :
    Does Try.prog { dst, op := .binOp .geq 3 (.tmp i) (.const (.int .i64 v)) 3, type := ty, pos, after, guard } a.eval w fun v' w' => Below w.heap.size w w' ∧ Eqs (.bool (decide (v ≤ u))) v' w' := by
  refine does_bin (v := .bool (decide (v ≤ u))) ?_ ?_ ⟨Below.refl _ _, rfl⟩
  · rw [h1]; simp [go_sem, Act.eval]
  · rw [h1]; simp [go_sem, Act.eval]
theorem op_mulk (h1 : a.eval (.tmp i) = .int .i64 u) (h : -9223372036854775808 ≤ u * v ∧ u * v ≤ 9223372036854775807) :
    Does Try.prog { dst, op := .binOp .mul 3 (.tmp i) (.const (.int .i64 v)) 3, type := ty, pos, after, guard } a.eval w fun v' w' => Below w.heap.size w w' ∧ Eqs (.int .i64 (u * v)) v' w' := by
  refine does_bin (v := .int .i64 (u * v)) ?_ ?_ ⟨Below.refl _ _, rfl⟩
  · rw [h1]; simp [go_sem, Act.eval]
  · rw [h1]; simp [go_sem, Act.eval]; exact wrap64 h.1 h.2
theorem op_subk (h1 : a.eval (.tmp i) = .int .i64 u) (h : -9223372036854775808 ≤ u - v ∧ u - v ≤ 9223372036854775807) :
    Does Try.prog { dst, op := .binOp .sub 3 (.tmp i) (.const (.int .i64 v)) 3, type := ty, pos, after, guard } a.eval w fun v' w' => Below w.heap.size w w' ∧ Eqs (.int .i64 (u - v)) v' w' := by
  refine does_bin (v := .int .i64 (u - v)) ?_ ?_ ⟨Below.refl _ _, rfl⟩
  · rw [h1]; simp [go_sem, Act.eval]
  · rw [h1]; simp [go_sem, Act.eval]; exact wrap64 h.1 h.2
theorem op_subi {j : Nat} (h1 : a.eval (.tmp i) = .int .i64 u) (h2 : a.eval (.tmp j) = .int .i64 v) (h : -9223372036854775808 ≤ u - v ∧ u - v ≤ 9223372036854775807) :
    Does Try.prog { dst, op := .binOp .sub 3 (.tmp i) (.tmp j) 3, type := ty, pos, after, guard } a.eval w fun v' w' => Below w.heap.size w w' ∧ Eqs (.int .i64 (u - v)) v' w' := by
  refine does_bin (v := .int .i64 (u - v)) ?_ ?_ ⟨Below.refl _ _, rfl⟩
  · rw [h1, h2]; simp [go_sem]
  · rw [h1, h2]; simp [go_sem]; exact wrap64 h.1 h.2
theorem op_idxi {ao : Option Addr} {b off n c j : Nat} {jj : Nat} (eD : ao = some ⟨b, off, none⟩) (h1 : a.eval (.tmp i) = .slice ao n c) (h2 : a.eval (.tmp jj) = .int .i64 (j : Int)) (hj : j < n) :
    Does Try.prog { dst, op := .indexAddr 59 (.tmp i) (.tmp jj), type := ty, pos, after, guard } a.eval w fun v' w' => Below w.heap.size w w' ∧ Eqs (.pointer (some ⟨b, off + j, none⟩)) v' w' := by
  subst eD
  have hj' : (j : Int) < (n : Int) := by omega
  have e : (execOp a.eval { dst, op := .indexAddr 59 (.tmp i) (.tmp jj), type := ty, pos, after, guard }).run Try.prog w = .ok (.value (.pointer (some ⟨b, off + j, none⟩))) w := by
    simp only [execOp, h1, h2]
    go_simp
  refine ⟨?_⟩
  unfold Turns
  rw [e]
  exact ⟨Below.refl _ _, rfl⟩
theorem op_ldi {p : Addr} (hp : a.eval (.tmp k) = .pointer (some p)) (hc : w.cell? p = some (.int .i64 z)) :
    Does Try.prog { dst, op := .load 3 (.tmp k), type := ty, pos, after, guard } a.eval w fun v' w' => Below w.heap.size w w' ∧ Eqs (.int .i64 z) v' w' := by
  refine does_load (v := .int .i64 z) ?_ ⟨Below.refl _ _, rfl⟩
  rw [hp]
  go_simp
theorem has_wint : Has Try.prog 10 := by unfold Has; kernel_rfl
theorem op_wint {L1 : Nat} (hx : IsW z L1 (a.eval (.tmp i)) w) :
    Does Try.prog { dst, op := .call { callee := .value (.func 10), args := #[.tmp i], argTypes := ats }, type := ty, pos, after, guard } a.eval w fun v w' => Below w.heap.size w w' ∧ Tup2 (Eqs (.int .i64 (intI z))) (Eqs (.bool (inI z))) v w' := by
  obtain ⟨n1, a1, m1, c1, xs, e1, A1, l1⟩ := hx
  have h := wint_any w n1 a1 m1 c1 xs A1.sl
  rw [A1.worth] at h
  refine does_call has_wint _ (by simp only [List.map_toArray, List.map_cons, List.map_nil, e1]) (h.mono ?_)
  rintro e w' ⟨rfl, hb⟩
  exact ⟨_, rfl, hb, _, _, rfl, rfl, rfl⟩
theorem res_tt {P : Program} {fn : Func} {a : Act} {w : World} {k k' : Nat} {v v' : Value} (hr : fn.results = #[.tmp k, .tmp k']) (hp : a.eval (.tmp k) = v) (hp' : a.eval (.tmp k') = v') : (results fn a.tmps).run P w = .ok (.tuple #[v, v']) w := by
  rw [← hp, ← hp']
  simp [results, hr, go_sem, Act.eval]
end
set_option maxRecDepth 20000 in
set_option maxHeartbeats 2000000 in
theorem r2int_z (w : World) (Bx : Nat) (nx : Bool) (ax : Option Addr) (mx cx : Nat) (xs : List Int) (zx : Int) (Ax : Ag w nx ax mx cx xs zx) (Lx : xs.length ≤ Bx) (hL : Bx ≤ 100000) :
    Calls Try.prog 11 #[.agg #[.bool nx, .slice ax mx cx]] w fun e w' => ∃ v, e = .returned v ∧ (Tup2 (Eqs (.int .i64 (intI zx))) (Eqs (.bool (inI zx)))) v w' ∧ Below w.heap.size w w' := by
  go_enter Try.func11, Try.ntmps11
  generalize hA : (Act.mk _ _) = aa
  have hn : aa.tmps.size = 50 := by rw [← hA]; rfl
  have hd : aa.defers = [] := by rw [← hA]
  have f0 : aa.eval (.tmp 0) = .agg #[.bool nx, .slice ax mx cx] := by rw [← hA]; rfl
  clear hA
  have HB : Below w.heap.size w w := Below.refl _ _
  have Tx := Ax.sl
  refine wp_seq ?_
  refine region4 [some 1, some 2, some 3] [(fun _ _ => True), Eqs ((.int .i64 0)), Eqs ((.bool false))] [⟨W2, some 0, 0, 1, .agg #[.bool nx, .slice ax mx cx], none, []⟩] [] (by kernel_rfl) hn rfl (by kernel_rfl) (by kernel_rfl) (by kernel_rfl) (by kernel_rfl) (by kernel_rfl) (by kernel_rfl) ⟨True.mono4, Eqs.mono4 _, Eqs.mono4 _, trivial⟩ (ok_cons W2ok ok_nil) (IsOld.all (bx := [⟨W2, some 0, 0, 1, .agg #[.bool nx, .slice ax mx cx], none, []⟩]) ⟨someNe, trivial⟩) (DisOld.all (bx := [⟨W2, some 0, 0, 1, .agg #[.bool nx, .slice ax mx cx], none, []⟩]) ⟨someNe, trivial⟩) ?_ ?_
  · exact ⟨.alloc 0 _ rfl rfl (.inr ⟨_, rfl, w2_cs, fun a_ hR => (hR 0 rfl).trans f0⟩) rfl rfl rfl rfl rfl,
      .norm 2 rfl rfl rfl (fun a_ w_ hn_ hBt hr hR hD hO hS => op_assign rfl),
      .norm 3 rfl rfl rfl (fun a_ w_ hn_ hBt hr hR hD hO hS => op_assign rfl),
      trivial⟩
  · intro a1 w1 gs1 hn1 hd1 hBt hr hR hP hX hU
    replace hn := hn1; replace hd := hd1.trans hd
    have b1 : BoxV W2 w1 (gs1 0) (.agg #[.bool nx, .slice ax mx cx]) := (hX 0 _ rfl).2.2.2
    have f1 := (hX 0 _ rfl).1
    have u1 : w.heap.size ≤ gs1 0 := Nat.le_trans HB.size ((hX 0 _ rfl).2.2.1 (by simp))
    have e2 : a1.eval (.tmp 2) = (.int .i64 0) := hP 1 (by decide)
    have f2 := e2
    have e3 : a1.eval (.tmp 3) = (.bool false) := hP 2 (by decide)
    have f3 := e3
    replace Ax := Ax.rl hr
    replace Tx := Tx.rl hr
    replace HB := HB.trans (hBt.below HB.size (UpOld.all (bx := [⟨W2, some 0, 0, 1, .agg #[.bool nx, .slice ax mx cx], none, []⟩]) ⟨someNe, trivial⟩))
    clear hBt hr hR hP hX hU
    refine wp_seq ?_
    refine region4 [some 8, some 9, some 4, none] [Eqs (.agg #[.bool nx, .slice ax mx cx]), OutN (zx) (3 * (Bx)), (fun _ _ => True), (fun _ _ => True)] [⟨N2, some 2, 0, 4, .agg #[.bool false, .slice none 0 0], some (3, 9, 1), []⟩] [] (by kernel_rfl) hn rfl (by kernel_rfl) (by kernel_rfl) (by kernel_rfl) (by kernel_rfl) (by kernel_rfl) (by kernel_rfl) ⟨Eqs.mono4 _, OutN.mono4 _ _, True.mono4, True.mono4, trivial⟩ (ok_cons N2ok ok_nil) (IsOld.all (bx := [⟨N2, some 2, 0, 4, .agg #[.bool false, .slice none 0 0], some (3, 9, 1), []⟩]) ⟨someNe, trivial⟩) (DisOld.all (bx := [⟨N2, some 2, 0, 4, .agg #[.bool false, .slice none 0 0], some (3, 9, 1), []⟩]) ⟨someNe, trivial⟩) ?_ ?_
    · exact ⟨.norm 8 rfl rfl rfl (fun a_ w_ hn_ hBt hr hR hD hO hS => op_loadv W2ok ((hR 1 rfl).trans f1) (b1.keep hBt ⟨someNe, trivial⟩)),
        .norm 9 rfl rfl rfl (fun a_ w_ hn_ hBt hr hR hD hO hS => op_nof (L := Bx) (isw_eq (show a_.eval (.tmp 8) = .agg #[.bool nx, .slice ax mx cx] from hD 0 rfl) (Ax.rl hr) Lx) (by omega)),
        .alloc 0 _ rfl rfl (.inl ⟨rfl, rfl⟩) rfl rfl rfl rfl rfl,
        .store 0 _ _ _ rfl rfl rfl rfl rfl rfl rfl (fun ia h => by cases h; rfl) rfl rfl rfl OutN.cs,
        trivial⟩
    · intro a2 w2 gs2 hn2 hd2 hBt hr hR hP hX hU
      replace hn := hn2; replace hd := hd2.trans hd
      obtain ⟨n_3, a_3, c_3, r_3, e9, G3, l3⟩ : OutN (zx) (3 * (Bx)) (a2.eval (.tmp 9)) w2 := hP 1 (by decide)
      have b4 : BoxV N2 w2 (gs2 0) (.agg #[.bool n_3, .slice a_3 r_3.length c_3]) := boxv_of (hX 0 _ rfl).2.2.2 e9
      have f4 := (hX 0 _ rfl).1
      have u4 : w.heap.size ≤ gs2 0 := Nat.le_trans HB.size ((hX 0 _ rfl).2.2.1 (by simp))
      replace f2 := (hR 2 rfl).trans f2
      replace f3 := (hR 3 rfl).trans f3
      replace Ax := Ax.rl hr
      replace Tx := Tx.rl hr
      replace HB := HB.trans (hBt.below HB.size (UpOld.all (bx := [⟨N2, some 2, 0, 4, .agg #[.bool false, .slice none 0 0], some (3, 9, 1), []⟩]) ⟨someNe, trivial⟩))
      clear hBt hr hR hP hX hU
      refine wp_seq ?_
      refine region4 [some 10, some 11, some 12, some 5, none] [OutN ((-9223372036854775807)) (5), OutN (1) (5), OutN (((-9223372036854775807) - 1)) ((5) + (5) + 1), (fun _ _ => True), (fun _ _ => True)] [⟨N2, some 3, 0, 5, .agg #[.bool false, .slice none 0 0], some (4, 12, 2), []⟩] [] (by kernel_rfl) hn rfl (by kernel_rfl) (by kernel_rfl) (by kernel_rfl) (by kernel_rfl) (by kernel_rfl) (by kernel_rfl) ⟨OutN.mono4 _ _, OutN.mono4 _ _, OutN.mono4 _ _, True.mono4, True.mono4, trivial⟩ (ok_cons N2ok ok_nil) (IsOld.all (bx := [⟨N2, some 3, 0, 5, .agg #[.bool false, .slice none 0 0], some (4, 12, 2), []⟩]) ⟨someNe, trivial⟩) (DisOld.all (bx := [⟨N2, some 3, 0, 5, .agg #[.bool false, .slice none 0 0], some (4, 12, 2), []⟩]) ⟨someNe, trivial⟩) ?_ ?_
      · exact ⟨.norm 10 rfl rfl rfl (fun a_ w_ hn_ hBt hr hR hD hO hS => op_nint (by omega) (by omega)),
          .norm 11 rfl rfl rfl (fun a_ w_ hn_ hBt hr hR hD hO hS => op_nint (by omega) (by omega)),
          .norm 12 rfl rfl rfl (fun a_ w_ hn_ hBt hr hR hD hO hS => op_nsub (L1 := 5) (L2 := 5) (show OutN ((-9223372036854775807)) (5) (a_.eval (.tmp 10)) w_ from hD 0 rfl) (show OutN (1) (5) (a_.eval (.tmp 11)) w_ from hD 1 rfl) (by omega) (by omega)),
          .alloc 0 _ rfl rfl (.inl ⟨rfl, rfl⟩) rfl rfl rfl rfl rfl,
          .store 0 _ _ _ rfl rfl rfl rfl rfl rfl rfl (fun ia h => by cases h; rfl) rfl rfl rfl OutN.cs,
          trivial⟩
      · intro a4 w4 gs4 hn4 hd4 hBt hr hR hP hX hU
        replace hn := hn4; replace hd := hd4.trans hd
        replace b4 := b4.keep hBt ⟨someNe, trivial⟩
        obtain ⟨n_5, a_5, c_5, r_5, e12, G5, l5⟩ : OutN (((-9223372036854775807) - 1)) ((5) + (5) + 1) (a4.eval (.tmp 12)) w4 := hP 2 (by decide)
        have b5 : BoxV N2 w4 (gs4 0) (.agg #[.bool n_5, .slice a_5 r_5.length c_5]) := boxv_of (hX 0 _ rfl).2.2.2 e12
        have f5 := (hX 0 _ rfl).1
        have u5 : w.heap.size ≤ gs4 0 := Nat.le_trans HB.size ((hX 0 _ rfl).2.2.1 (by simp))
        replace f2 := (hR 2 rfl).trans f2
        replace f3 := (hR 3 rfl).trans f3
        replace f4 := (hR 4 rfl).trans f4
        replace Ax := Ax.rl hr
        replace Tx := Tx.rl hr
        replace G3 := G3.rl hr
        replace HB := HB.trans (hBt.below HB.size (UpOld.all (bx := [⟨N2, some 3, 0, 5, .agg #[.bool false, .slice none 0 0], some (4, 12, 2), []⟩]) ⟨someNe, trivial⟩))
        clear hBt hr hR hP hX hU
        by_cases hlo : zx < -9223372036854775808
        · skip
          refine wp_seq ?_
          refine wp_seq ?_
          refine region4 [some 13, some 14, some 15, some 16, some 17, some 18, some 19, some 20, some 21, some 22] [Eqs (.agg #[.bool n_3, .slice a_3 r_3.length c_3]), Eqs (.agg #[.bool n_5, .slice a_5 r_5.length c_5]), Eqs (.int .i64 (cmpI zx ((-9223372036854775807) - 1))), Eqs (.bool true), Eqs (.bool true), (fun _ _ => True), (fun _ _ => True), (fun _ _ => True), (fun _ _ => True), Eqs (.bool true)] [] [] (by kernel_rfl) hn rfl (by kernel_rfl) (by kernel_rfl) (by kernel_rfl) (by kernel_rfl) (by kernel_rfl) (by kernel_rfl) ⟨Eqs.mono4 _, Eqs.mono4 _, Eqs.mono4 _, Eqs.mono4 _, Eqs.mono4 _, True.mono4, True.mono4, True.mono4, True.mono4, Eqs.mono4 _, trivial⟩ ok_nil (IsOld.all (bx := []) trivial) (DisOld.all (bx := []) trivial) ?_ ?_
          · exact ⟨.norm 13 rfl rfl rfl (fun a_ w_ hn_ hBt hr hR hD hO hS => op_loadv N2ok ((hR 4 rfl).trans f4) (b4.keep hBt trivial)),
              .norm 14 rfl rfl rfl (fun a_ w_ hn_ hBt hr hR hD hO hS => op_loadv N2ok ((hR 5 rfl).trans f5) (b5.keep hBt trivial)),
              .norm 15 rfl rfl rfl (fun a_ w_ hn_ hBt hr hR hD hO hS => op_ncmp (outn_eq (show a_.eval (.tmp 13) = .agg #[.bool n_3, .slice a_3 r_3.length c_3] from hD 0 rfl) (G3.rl hr) l3) (outn_eq (show a_.eval (.tmp 14) = .agg #[.bool n_5, .slice a_5 r_5.length c_5] from hD 1 rfl) (G5.rl hr) l5)),
              .norm 16 rfl rfl rfl (fun a_ w_ hn_ hBt hr hR hD hO hS => op_lsst (show a_.eval (.tmp 15) = .int .i64 (cmpI zx ((-9223372036854775807) - 1)) from hD 2 rfl) (by rw [cmpI_lt (by omega)]; omega)),
              .norm 17 rfl rfl rfl (fun a_ w_ hn_ hBt hr hR hD hO hS => op_mv (show a_.eval (.tmp 16) = .bool true from hD 3 rfl)),
              .norm 18 rfl rfl rfl (fun a_ w_ hn_ hBt hr hR hD hO hS => ⟨⟨_, rfl⟩, fun h => absurd ((show _ = Value.bool true from hD 4 rfl).symm.trans h) (by simp), fun _ => trivial⟩),
              .norm 19 rfl rfl rfl (fun a_ w_ hn_ hBt hr hR hD hO hS => ⟨⟨_, rfl⟩, fun h => absurd ((show _ = Value.bool true from hD 4 rfl).symm.trans h) (by simp), fun _ => trivial⟩),
              .norm 20 rfl rfl rfl (fun a_ w_ hn_ hBt hr hR hD hO hS => ⟨⟨_, rfl⟩, fun h => absurd ((show _ = Value.bool true from hD 4 rfl).symm.trans h) (by simp), fun _ => trivial⟩),
              .norm 21 rfl rfl rfl (fun a_ w_ hn_ hBt hr hR hD hO hS => ⟨⟨_, rfl⟩, fun h => absurd ((show _ = Value.bool true from hD 4 rfl).symm.trans h) (by simp), fun _ => trivial⟩),
              .norm 22 rfl rfl rfl (fun a_ w_ hn_ hBt hr hR hD hO hS => op_pickb (show a_.eval (.tmp 17) = .bool true from hD 4 rfl) rfl),
              trivial⟩
          · intro a6 w6 gs6 hn6 hd6 hBt hr hR hP hX hU
            replace hn := hn6; replace hd := hd6.trans hd
            replace b4 := b4.keep hBt trivial
            replace f2 := (hR 2 rfl).trans f2
            replace f3 := (hR 3 rfl).trans f3
            replace f4 := (hR 4 rfl).trans f4
            have e22 : a6.eval (.tmp 22) = .bool true := hP 9 (by decide)
            have f22 := e22
            replace Ax := Ax.rl hr
            replace Tx := Tx.rl hr
            replace G3 := G3.rl hr
            replace G5 := G5.rl hr
            replace HB := HB.trans (hBt.below HB.size (UpOld.all (bx := []) trivial))
            clear hBt hr hR hP hX hU
            refine wp_cond_true f22 ?_
            refine wp_seq ?_
            refine region4 [some 2, some 3] [Eqs ((.int .i64 0)), Eqs ((.bool false))] [] [] (by kernel_rfl) hn rfl (by kernel_rfl) (by kernel_rfl) (by kernel_rfl) (by kernel_rfl) (by kernel_rfl) (by kernel_rfl) ⟨Eqs.mono4 _, Eqs.mono4 _, trivial⟩ ok_nil (IsOld.all (bx := []) trivial) (DisOld.all (bx := []) trivial) ?_ ?_
            · exact ⟨.norm 2 rfl rfl rfl (fun a_ w_ hn_ hBt hr hR hD hO hS => op_assign rfl),
                .norm 3 rfl rfl rfl (fun a_ w_ hn_ hBt hr hR hD hO hS => op_assign rfl),
                trivial⟩
            · intro a7 w7 gs7 hn7 hd7 hBt hr hR hP hX hU
              replace hn := hn7; replace hd := hd7.trans hd
              replace b4 := b4.keep hBt trivial
              replace f4 := (hR 4 rfl).trans f4
              have e2 : a7.eval (.tmp 2) = (.int .i64 0) := hP 0 (by decide)
              have f2 := e2
              have e3 : a7.eval (.tmp 3) = (.bool false) := hP 1 (by decide)
              have f3 := e3
              replace Ax := Ax.rl hr
              replace Tx := Tx.rl hr
              replace G3 := G3.rl hr
              replace G5 := G5.rl hr
              replace HB := HB.trans (hBt.below HB.size (UpOld.all (bx := []) trivial))
              clear hBt hr hR hP hX hU
              refine wp_ret ?_
              repeat (first | refine then_ret ?_ | refine scope_ret ?_ | refine block_ret ?_)
              exact bodyPost_ret (v := .tuple #[.int .i64 0, .bool false]) (res_tt rfl f2 f3) hd ⟨_, rfl, ⟨_, _, rfl, (by simp [Eqs, intI]; omega), (by simp [Eqs, inI]; omega)⟩, HB⟩
        · skip
          by_cases hhi : 9223372036854775807 < zx
          · skip
            refine wp_seq ?_
            refine wp_seq ?_
            refine region4 [some 13, some 14, some 15, some 16, some 17, some 18, some 19, some 20, some 21, some 22] [Eqs (.agg #[.bool n_3, .slice a_3 r_3.length c_3]), Eqs (.agg #[.bool n_5, .slice a_5 r_5.length c_5]), Eqs (.int .i64 (cmpI zx ((-9223372036854775807) - 1))), Eqs (.bool false), Eqs (.bool false), Eqs (.agg #[.bool n_3, .slice a_3 r_3.length c_3]), OutN (9223372036854775807) (5), Eqs (.int .i64 (cmpI zx 9223372036854775807)), Eqs (.bool true), Eqs (.bool true)] [] [] (by kernel_rfl) hn rfl (by kernel_rfl) (by kernel_rfl) (by kernel_rfl) (by kernel_rfl) (by kernel_rfl) (by kernel_rfl) ⟨Eqs.mono4 _, Eqs.mono4 _, Eqs.mono4 _, Eqs.mono4 _, Eqs.mono4 _, Eqs.mono4 _, OutN.mono4 _ _, Eqs.mono4 _, Eqs.mono4 _, Eqs.mono4 _, trivial⟩ ok_nil (IsOld.all (bx := []) trivial) (DisOld.all (bx := []) trivial) ?_ ?_
            · exact ⟨.norm 13 rfl rfl rfl (fun a_ w_ hn_ hBt hr hR hD hO hS => op_loadv N2ok ((hR 4 rfl).trans f4) (b4.keep hBt trivial)),
                .norm 14 rfl rfl rfl (fun a_ w_ hn_ hBt hr hR hD hO hS => op_loadv N2ok ((hR 5 rfl).trans f5) (b5.keep hBt trivial)),
                .norm 15 rfl rfl rfl (fun a_ w_ hn_ hBt hr hR hD hO hS => op_ncmp (outn_eq (show a_.eval (.tmp 13) = .agg #[.bool n_3, .slice a_3 r_3.length c_3] from hD 0 rfl) (G3.rl hr) l3) (outn_eq (show a_.eval (.tmp 14) = .agg #[.bool n_5, .slice a_5 r_5.length c_5] from hD 1 rfl) (G5.rl hr) l5)),
                .norm 16 rfl rfl rfl (fun a_ w_ hn_ hBt hr hR hD hO hS => op_lssf (show a_.eval (.tmp 15) = .int .i64 (cmpI zx ((-9223372036854775807) - 1)) from hD 2 rfl) (cmpI_nlt (by omega))),
                .norm 17 rfl rfl rfl (fun a_ w_ hn_ hBt hr hR hD hO hS => op_mv (show a_.eval (.tmp 16) = .bool false from hD 3 rfl)),
                .norm 18 rfl rfl rfl (fun a_ w_ hn_ hBt hr hR hD hO hS => ⟨⟨_, rfl⟩, fun _ => op_loadv N2ok ((hR 4 rfl).trans f4) (b4.keep hBt trivial), fun hne => absurd (hD 4 rfl) hne⟩),
                .norm 19 rfl rfl rfl (fun a_ w_ hn_ hBt hr hR hD hO hS => ⟨⟨_, rfl⟩, fun _ => op_nint (by omega) (by omega), fun hne => absurd (hD 4 rfl) hne⟩),
                .norm 20 rfl rfl rfl (fun a_ w_ hn_ hBt hr hR hD hO hS => ⟨⟨_, rfl⟩, fun _ => op_ncmp (outn_eq (show a_.eval (.tmp 18) = .agg #[.bool n_3, .slice a_3 r_3.length c_3] from hD 5 rfl) (G3.rl hr) l3) (show OutN (9223372036854775807) (5) (a_.eval (.tmp 19)) w_ from hD 6 rfl), fun hne => absurd (hD 4 rfl) hne⟩),
                .norm 21 rfl rfl rfl (fun a_ w_ hn_ hBt hr hR hD hO hS => ⟨⟨_, rfl⟩, fun _ => op_gtrt (show a_.eval (.tmp 20) = .int .i64 (cmpI zx 9223372036854775807) from hD 7 rfl) (by rw [cmpI_gt (by omega)]; omega), fun hne => absurd (hD 4 rfl) hne⟩),
                .norm 22 rfl rfl rfl (fun a_ w_ hn_ hBt hr hR hD hO hS => op_pickb (show a_.eval (.tmp 17) = .bool false from hD 4 rfl) (show a_.eval (.tmp 21) = .bool true from hD 8 rfl)),
                trivial⟩
            · intro a8 w8 gs8 hn8 hd8 hBt hr hR hP hX hU
              replace hn := hn8; replace hd := hd8.trans hd
              replace b4 := b4.keep hBt trivial
              replace f2 := (hR 2 rfl).trans f2
              replace f3 := (hR 3 rfl).trans f3
              replace f4 := (hR 4 rfl).trans f4
              have e22 : a8.eval (.tmp 22) = .bool true := hP 9 (by decide)
              have f22 := e22
              replace Ax := Ax.rl hr
              replace Tx := Tx.rl hr
              replace G3 := G3.rl hr
              replace G5 := G5.rl hr
              replace HB := HB.trans (hBt.below HB.size (UpOld.all (bx := []) trivial))
              clear hBt hr hR hP hX hU
              refine wp_cond_true f22 ?_
              refine wp_seq ?_
              refine region4 [some 2, some 3] [Eqs ((.int .i64 0)), Eqs ((.bool false))] [] [] (by kernel_rfl) hn rfl (by kernel_rfl) (by kernel_rfl) (by kernel_rfl) (by kernel_rfl) (by kernel_rfl) (by kernel_rfl) ⟨Eqs.mono4 _, Eqs.mono4 _, trivial⟩ ok_nil (IsOld.all (bx := []) trivial) (DisOld.all (bx := []) trivial) ?_ ?_
              · exact ⟨.norm 2 rfl rfl rfl (fun a_ w_ hn_ hBt hr hR hD hO hS => op_assign rfl),
                  .norm 3 rfl rfl rfl (fun a_ w_ hn_ hBt hr hR hD hO hS => op_assign rfl),
                  trivial⟩
              · intro a9 w9 gs9 hn9 hd9 hBt hr hR hP hX hU
                replace hn := hn9; replace hd := hd9.trans hd
                replace b4 := b4.keep hBt trivial
                replace f4 := (hR 4 rfl).trans f4
                have e2 : a9.eval (.tmp 2) = (.int .i64 0) := hP 0 (by decide)
                have f2 := e2
                have e3 : a9.eval (.tmp 3) = (.bool false) := hP 1 (by decide)
                have f3 := e3
                replace Ax := Ax.rl hr
                replace Tx := Tx.rl hr
                replace G3 := G3.rl hr
                replace G5 := G5.rl hr
                replace HB := HB.trans (hBt.below HB.size (UpOld.all (bx := []) trivial))
                clear hBt hr hR hP hX hU
                refine wp_ret ?_
                repeat (first | refine then_ret ?_ | refine scope_ret ?_ | refine block_ret ?_)
                exact bodyPost_ret (v := .tuple #[.int .i64 0, .bool false]) (res_tt rfl f2 f3) hd ⟨_, rfl, ⟨_, _, rfl, (by simp [Eqs, intI]; omega), (by simp [Eqs, inI]; omega)⟩, HB⟩
          · skip
            refine wp_seq ?_
            refine wp_seq ?_
            refine region4 [some 13, some 14, some 15, some 16, some 17, some 18, some 19, some 20, some 21, some 22] [Eqs (.agg #[.bool n_3, .slice a_3 r_3.length c_3]), Eqs (.agg #[.bool n_5, .slice a_5 r_5.length c_5]), Eqs (.int .i64 (cmpI zx ((-9223372036854775807) - 1))), Eqs (.bool false), Eqs (.bool false), Eqs (.agg #[.bool n_3, .slice a_3 r_3.length c_3]), OutN (9223372036854775807) (5), Eqs (.int .i64 (cmpI zx 9223372036854775807)), Eqs (.bool false), Eqs (.bool false)] [] [] (by kernel_rfl) hn rfl (by kernel_rfl) (by kernel_rfl) (by kernel_rfl) (by kernel_rfl) (by kernel_rfl) (by kernel_rfl) ⟨Eqs.mono4 _, Eqs.mono4 _, Eqs.mono4 _, Eqs.mono4 _, Eqs.mono4 _, Eqs.mono4 _, OutN.mono4 _ _, Eqs.mono4 _, Eqs.mono4 _, Eqs.mono4 _, trivial⟩ ok_nil (IsOld.all (bx := []) trivial) (DisOld.all (bx := []) trivial) ?_ ?_
            · exact ⟨.norm 13 rfl rfl rfl (fun a_ w_ hn_ hBt hr hR hD hO hS => op_loadv N2ok ((hR 4 rfl).trans f4) (b4.keep hBt trivial)),
                .norm 14 rfl rfl rfl (fun a_ w_ hn_ hBt hr hR hD hO hS => op_loadv N2ok ((hR 5 rfl).trans f5) (b5.keep hBt trivial)),
                .norm 15 rfl rfl rfl (fun a_ w_ hn_ hBt hr hR hD hO hS => op_ncmp (outn_eq (show a_.eval (.tmp 13) = .agg #[.bool n_3, .slice a_3 r_3.length c_3] from hD 0 rfl) (G3.rl hr) l3) (outn_eq (show a_.eval (.tmp 14) = .agg #[.bool n_5, .slice a_5 r_5.length c_5] from hD 1 rfl) (G5.rl hr) l5)),
                .norm 16 rfl rfl rfl (fun a_ w_ hn_ hBt hr hR hD hO hS => op_lssf (show a_.eval (.tmp 15) = .int .i64 (cmpI zx ((-9223372036854775807) - 1)) from hD 2 rfl) (cmpI_nlt (by omega))),
                .norm 17 rfl rfl rfl (fun a_ w_ hn_ hBt hr hR hD hO hS => op_mv (show a_.eval (.tmp 16) = .bool false from hD 3 rfl)),
                .norm 18 rfl rfl rfl (fun a_ w_ hn_ hBt hr hR hD hO hS => ⟨⟨_, rfl⟩, fun _ => op_loadv N2ok ((hR 4 rfl).trans f4) (b4.keep hBt trivial), fun hne => absurd (hD 4 rfl) hne⟩),
                .norm 19 rfl rfl rfl (fun a_ w_ hn_ hBt hr hR hD hO hS => ⟨⟨_, rfl⟩, fun _ => op_nint (by omega) (by omega), fun hne => absurd (hD 4 rfl) hne⟩),
                .norm 20 rfl rfl rfl (fun a_ w_ hn_ hBt hr hR hD hO hS => ⟨⟨_, rfl⟩, fun _ => op_ncmp (outn_eq (show a_.eval (.tmp 18) = .agg #[.bool n_3, .slice a_3 r_3.length c_3] from hD 5 rfl) (G3.rl hr) l3) (show OutN (9223372036854775807) (5) (a_.eval (.tmp 19)) w_ from hD 6 rfl), fun hne => absurd (hD 4 rfl) hne⟩),
                .norm 21 rfl rfl rfl (fun a_ w_ hn_ hBt hr hR hD hO hS => ⟨⟨_, rfl⟩, fun _ => op_gtrf (show a_.eval (.tmp 20) = .int .i64 (cmpI zx 9223372036854775807) from hD 7 rfl) (cmpI_ngt (by omega)), fun hne => absurd (hD 4 rfl) hne⟩),
                .norm 22 rfl rfl rfl (fun a_ w_ hn_ hBt hr hR hD hO hS => op_pickb (show a_.eval (.tmp 17) = .bool false from hD 4 rfl) (show a_.eval (.tmp 21) = .bool false from hD 8 rfl)),
                trivial⟩
            · intro a10 w10 gs10 hn10 hd10 hBt hr hR hP hX hU
              replace hn := hn10; replace hd := hd10.trans hd
              replace b4 := b4.keep hBt trivial
              replace f2 := (hR 2 rfl).trans f2
              replace f3 := (hR 3 rfl).trans f3
              replace f4 := (hR 4 rfl).trans f4
              have e22 : a10.eval (.tmp 22) = .bool false := hP 9 (by decide)
              have f22 := e22
              replace Ax := Ax.rl hr
              replace Tx := Tx.rl hr
              replace G3 := G3.rl hr
              replace G5 := G5.rl hr
              replace HB := HB.trans (hBt.below HB.size (UpOld.all (bx := []) trivial))
              clear hBt hr hR hP hX hU
              refine wp_cond_false f22 ?_
              refine wp_skip ?_
              refine wp_seq ?_
              refine region4 [some 6] [Eqs ((.int .i64 0))] [] [] (by kernel_rfl) hn rfl (by kernel_rfl) (by kernel_rfl) (by kernel_rfl) (by kernel_rfl) (by kernel_rfl) (by kernel_rfl) ⟨Eqs.mono4 _, trivial⟩ ok_nil (IsOld.all (bx := []) trivial) (DisOld.all (bx := []) trivial) ?_ ?_
              · exact ⟨.norm 6 rfl rfl rfl (fun a_ w_ hn_ hBt hr hR hD hO hS => op_assign rfl),
                  trivial⟩
              · intro a11 w11 gs11 hn11 hd11 hBt hr hR hP hX hU
                replace hn := hn11; replace hd := hd11.trans hd
                replace b4 := b4.keep hBt trivial
                replace f2 := (hR 2 rfl).trans f2
                replace f3 := (hR 3 rfl).trans f3
                replace f4 := (hR 4 rfl).trans f4
                have e6 : a11.eval (.tmp 6) = (.int .i64 0) := hP 0 (by decide)
                have f6 := e6
                replace Ax := Ax.rl hr
                replace Tx := Tx.rl hr
                replace G3 := G3.rl hr
                replace G5 := G5.rl hr
                replace HB := HB.trans (hBt.below HB.size (UpOld.all (bx := []) trivial))
                clear hBt hr hR hP hX hU
                refine wp_seq ?_
                refine wp_seq ?_
                refine region4 [some 23, some 24, some 25, some 26, some 7] [Eqs (.pointer (some ⟨gs2 0, 1, none⟩)), Eqs (.slice a_3 r_3.length c_3), Eqs (.int .i64 (r_3.length : Int)), Eqs (.int .i64 ((r_3.length : Int) - 1)), Eqs (.int .i64 ((r_3.length : Int) - 1))] [] [] (by kernel_rfl) hn rfl (by kernel_rfl) (by kernel_rfl) (by kernel_rfl) (by kernel_rfl) (by kernel_rfl) (by kernel_rfl) ⟨Eqs.mono4 _, Eqs.mono4 _, Eqs.mono4 _, Eqs.mono4 _, Eqs.mono4 _, trivial⟩ ok_nil (IsOld.all (bx := []) trivial) (DisOld.all (bx := []) trivial) ?_ ?_
                · exact ⟨.norm 23 rfl rfl rfl (fun a_ w_ hn_ hBt hr hR hD hO hS => op_faN fa_ndig ((hR 4 rfl).trans f4)),
                    .norm 24 rfl rfl rfl (fun a_ w_ hn_ hBt hr hR hD hO hS => op_ldndig (show a_.eval (.tmp 23) = .pointer (some ⟨gs2 0, 1, none⟩) from hD 0 rfl) (b4.keep hBt trivial)),
                    .norm 25 rfl rfl rfl (fun a_ w_ hn_ hBt hr hR hD hO hS => op_leni (show a_.eval (.tmp 24) = .slice a_3 r_3.length c_3 from hD 1 rfl)),
                    .norm 26 rfl rfl rfl (fun a_ w_ hn_ hBt hr hR hD hO hS => op_subk (show a_.eval (.tmp 25) = .int .i64 (r_3.length : Int) from hD 2 rfl) (by omega)),
                    .norm 7 rfl rfl rfl (fun a_ w_ hn_ hBt hr hR hD hO hS => op_assign (show a_.eval (.tmp 26) = .int .i64 ((r_3.length : Int) - 1) from hD 3 rfl)),
                    trivial⟩
                · intro a12 w12 gs12 hn12 hd12 hBt hr hR hP hX hU
                  replace hn := hn12; replace hd := hd12.trans hd
                  replace b4 := b4.keep hBt trivial
                  replace f2 := (hR 2 rfl).trans f2
                  replace f3 := (hR 3 rfl).trans f3
                  replace f4 := (hR 4 rfl).trans f4
                  replace f6 := (hR 6 rfl).trans f6
                  have e7 : a12.eval (.tmp 7) = .int .i64 ((r_3.length : Int) - 1) := hP 4 (by decide)
                  have f7 := e7
                  replace Ax := Ax.rl hr
                  replace Tx := Tx.rl hr
                  replace G3 := G3.rl hr
                  replace G5 := G5.rl hr
                  replace HB := HB.trans (hBt.below HB.size (UpOld.all (bx := []) trivial))
                  clear hBt hr hR hP hX hU
                  refine wp_block ?_
                  obtain ⟨HZ, HN⟩ := int_sg G3 hlo hhi
                  generalize hvs : r_3 = vs at *
                  refine wp_loop_ghost (fun n a w' => a.tmps.size = 50 ∧ a.defers = [] ∧ a.eval (.tmp 4) = .pointer (some ⟨(gs2 0), 0, none⟩) ∧ BoxV N2 w' (gs2 0) (.agg #[.bool n_3, .slice a_3 vs.length c_3]) ∧ Below w.heap.size w w' ∧ Dm.Wh w' n_3 a_3 c_3 vs zx ∧ n ≤ vs.length ∧ a.eval (.tmp 6) = .int .i64 (sg n_3 (Dm.val (vs.drop n))) ∧ a.eval (.tmp 7) = .int .i64 ((n : Int) - 1)) vs.length ⟨hn, hd, f4, b4, HB, G3, Nat.le_refl _, f6.trans (by simp [sg, Dm.val]), f7⟩ ?_
                  clear hn hd f4 f6 f7 b4 HB Ax Tx G3 G5
                  rintro n aL wL ⟨hn, hd, f4, b4, HB, Gv, hk, f6, f7⟩
                  refine wp_seq ?_
                  refine wp_seq ?_
                  refine region4 [some 27, some 28] [Eqs (.int .i64 ((n : Int) - 1)), Eqs (.bool (decide (0 ≤ ((n : Int) - 1))))] [] [] (by kernel_rfl) hn rfl (by kernel_rfl) (by kernel_rfl) (by kernel_rfl) (by kernel_rfl) (by kernel_rfl) (by kernel_rfl) ⟨Eqs.mono4 _, Eqs.mono4 _, trivial⟩ ok_nil (IsOld.all (bx := []) trivial) (DisOld.all (bx := []) trivial) ?_ ?_
                  · exact ⟨.norm 27 rfl rfl rfl (fun a_ w_ hn_ hBt hr hR hD hO hS => op_mv ((hR 7 rfl).trans f7)),
                      .norm 28 rfl rfl rfl (fun a_ w_ hn_ hBt hr hR hD hO hS => op_geqk (show a_.eval (.tmp 27) = .int .i64 ((n : Int) - 1) from hD 0 rfl)),
                      trivial⟩
                  · intro a13 w13 gs13 hn13 hd13 hBt hr hR hP hX hU
                    replace hn := hn13; replace hd := hd13.trans hd
                    replace b4 := b4.keep hBt trivial
                    replace f4 := (hR 4 rfl).trans f4
                    replace f6 := (hR 6 rfl).trans f6
                    replace f7 := (hR 7 rfl).trans f7
                    have e28 : a13.eval (.tmp 28) = .bool (decide (0 ≤ ((n : Int) - 1))) := hP 1 (by decide)
                    have f28 := e28
                    replace Gv := Gv.rl hr
                    replace HB := HB.trans (hBt.below HB.size (UpOld.all (bx := []) trivial))
                    clear hBt hr hR hP hX hU
                    refine wp_cond_split f28 (fun hc28 => ?_) (fun hc28 => ?_)
                    · skip
                      have hc28' := of_decide_eq_true hc28
                      obtain ⟨j, rfl⟩ : ∃ j : Nat, n = j + 1 := ⟨n - 1, by omega⟩
                      replace f7 := f7.trans (show _ = Value.int .i64 (j : Int) by congr 1; omega)
                      obtain ⟨bD, oD, eD, hcD⟩ := Gv.1.1.cells (show 0 < vs.length by omega)
                      clear hcD
                      refine wp_skip ?_
                      refine wp_seq ?_
                      refine wp_block ?_
                      refine wp_seq ?_
                      refine region4 [some 31, some 32] [Eqs (.pointer (some ⟨gs2 0, 0, none⟩)), Eqs (.bool n_3)] [] [] (by kernel_rfl) hn rfl (by kernel_rfl) (by kernel_rfl) (by kernel_rfl) (by kernel_rfl) (by kernel_rfl) (by kernel_rfl) ⟨Eqs.mono4 _, Eqs.mono4 _, trivial⟩ ok_nil (IsOld.all (bx := []) trivial) (DisOld.all (bx := []) trivial) ?_ ?_
                      · exact ⟨.norm 31 rfl rfl rfl (fun a_ w_ hn_ hBt hr hR hD hO hS => op_faN fa_nneg ((hR 4 rfl).trans f4)),
                          .norm 32 rfl rfl rfl (fun a_ w_ hn_ hBt hr hR hD hO hS => op_ldnneg (show a_.eval (.tmp 31) = .pointer (some ⟨gs2 0, 0, none⟩) from hD 0 rfl) (b4.keep hBt trivial)),
                          trivial⟩
                      · intro a14 w14 gs14 hn14 hd14 hBt hr hR hP hX hU
                        replace hn := hn14; replace hd := hd14.trans hd
                        replace b4 := b4.keep hBt trivial
                        replace f4 := (hR 4 rfl).trans f4
                        replace f6 := (hR 6 rfl).trans f6
                        replace f7 := (hR 7 rfl).trans f7
                        have e32 : a14.eval (.tmp 32) = .bool n_3 := hP 1 (by decide)
                        have f32 := e32
                        replace Gv := Gv.rl hr
                        replace HB := HB.trans (hBt.below HB.size (UpOld.all (bx := []) trivial))
                        clear hBt hr hR hP hX hU
                        refine wp_cond_split f32 (fun hc32 => ?_) (fun hc32 => ?_)
                        · skip
                          obtain ⟨hst, hd1, hd2, hd3⟩ := int_step (Gv.1.2.1.1) (show j < vs.length by omega) hc32 HN
                          replace f6 := f6.trans (show _ = Value.int .i64 (-Dm.val (vs.drop (j + 1))) by rw [hc32]; rfl)
                          simp only [if_true] at hd1 hst
                          refine region4 [some 33, some 34, some 35, some 36, some 37, some 38, some 39, some 40, some 6] [Eqs (.int .i64 (-Dm.val (vs.drop (j + 1)))), Eqs (.int .i64 ((-Dm.val (vs.drop (j + 1))) * 10000)), Eqs (.pointer (some ⟨gs2 0, 1, none⟩)), Eqs (.slice a_3 vs.length c_3), Eqs (.int .i64 (j : Int)), Eqs (.pointer (some ⟨bD, oD + j, none⟩)), Eqs (.int .i64 (vs.getD j 0)), Eqs (.int .i64 (((-Dm.val (vs.drop (j + 1))) * 10000) - (vs.getD j 0))), Eqs (.int .i64 (((-Dm.val (vs.drop (j + 1))) * 10000) - (vs.getD j 0)))] [] [(8, 0)] (by kernel_rfl) hn rfl (by kernel_rfl) (by kernel_rfl) (by kernel_rfl) (by kernel_rfl) (by kernel_rfl) (by kernel_rfl) ⟨Eqs.mono4 _, Eqs.mono4 _, Eqs.mono4 _, Eqs.mono4 _, Eqs.mono4 _, Eqs.mono4 _, Eqs.mono4 _, Eqs.mono4 _, Eqs.mono4 _, trivial⟩ ok_nil (IsOld.all (bx := []) trivial) (DisOld.all (bx := []) trivial) ?_ ?_
                          · exact ⟨.norm 33 rfl rfl rfl (fun a_ w_ hn_ hBt hr hR hD hO hS => op_mv ((hS 8 6 rfl rfl).trans f6)),
                              .norm 34 rfl rfl rfl (fun a_ w_ hn_ hBt hr hR hD hO hS => op_mulk (show a_.eval (.tmp 33) = .int .i64 (-Dm.val (vs.drop (j + 1))) from hD 0 rfl) (by omega)),
                              .norm 35 rfl rfl rfl (fun a_ w_ hn_ hBt hr hR hD hO hS => op_faN fa_ndig ((hR 4 rfl).trans f4)),
                              .norm 36 rfl rfl rfl (fun a_ w_ hn_ hBt hr hR hD hO hS => op_ldndig (show a_.eval (.tmp 35) = .pointer (some ⟨gs2 0, 1, none⟩) from hD 2 rfl) (b4.keep hBt trivial)),
                              .norm 37 rfl rfl rfl (fun a_ w_ hn_ hBt hr hR hD hO hS => op_mv ((hR 7 rfl).trans f7)),
                              .norm 38 rfl rfl rfl (fun a_ w_ hn_ hBt hr hR hD hO hS => op_idxi eD (show a_.eval (.tmp 36) = .slice a_3 vs.length c_3 from hD 3 rfl) (show a_.eval (.tmp 37) = .int .i64 (j : Int) from hD 4 rfl) (by omega)),
                              .norm 39 rfl rfl rfl (fun a_ w_ hn_ hBt hr hR hD hO hS => op_ldi (show a_.eval (.tmp 38) = .pointer (some ⟨bD, oD + j, none⟩) from hD 5 rfl) (dcell (Gv.rl hr).1.1 eD (by omega))),
                              .norm 40 rfl rfl rfl (fun a_ w_ hn_ hBt hr hR hD hO hS => op_subi (show a_.eval (.tmp 34) = .int .i64 ((-Dm.val (vs.drop (j + 1))) * 10000) from hD 1 rfl) (show a_.eval (.tmp 39) = .int .i64 (vs.getD j 0) from hD 6 rfl) (by omega)),
                              .norm 6 rfl rfl rfl (fun a_ w_ hn_ hBt hr hR hD hO hS => op_assign (show a_.eval (.tmp 40) = .int .i64 (((-Dm.val (vs.drop (j + 1))) * 10000) - (vs.getD j 0)) from hD 7 rfl)),
                              trivial⟩
                          · intro a15 w15 gs15 hn15 hd15 hBt hr hR hP hX hU
                            replace hn := hn15; replace hd := hd15.trans hd
                            replace b4 := b4.keep hBt trivial
                            replace f4 := (hR 4 rfl).trans f4
                            replace f7 := (hR 7 rfl).trans f7
                            have e6 : a15.eval (.tmp 6) = .int .i64 (((-Dm.val (vs.drop (j + 1))) * 10000) - (vs.getD j 0)) := hP 8 (by decide)
                            have f6 := e6
                            replace Gv := Gv.rl hr
                            replace HB := HB.trans (hBt.below HB.size (UpOld.all (bx := []) trivial))
                            clear hBt hr hR hP hX hU
                            refine block_normal ?_
                            refine region4 [some 29, some 30, some 7] [Eqs (.int .i64 (j : Int)), Eqs (.int .i64 ((j : Int) - 1)), Eqs (.int .i64 ((j : Int) - 1))] [] [(2, 0)] (by kernel_rfl) hn rfl (by kernel_rfl) (by kernel_rfl) (by kernel_rfl) (by kernel_rfl) (by kernel_rfl) (by kernel_rfl) ⟨Eqs.mono4 _, Eqs.mono4 _, Eqs.mono4 _, trivial⟩ ok_nil (IsOld.all (bx := []) trivial) (DisOld.all (bx := []) trivial) ?_ ?_
                            · exact ⟨.norm 29 rfl rfl rfl (fun a_ w_ hn_ hBt hr hR hD hO hS => op_mv ((hS 2 7 rfl rfl).trans f7)),
                                .norm 30 rfl rfl rfl (fun a_ w_ hn_ hBt hr hR hD hO hS => op_subk (show a_.eval (.tmp 29) = .int .i64 (j : Int) from hD 0 rfl) (by omega)),
                                .norm 7 rfl rfl rfl (fun a_ w_ hn_ hBt hr hR hD hO hS => op_assign (show a_.eval (.tmp 30) = .int .i64 ((j : Int) - 1) from hD 1 rfl)),
                                trivial⟩
                            · intro a16 w16 gs16 hn16 hd16 hBt hr hR hP hX hU
                              replace hn := hn16; replace hd := hd16.trans hd
                              replace b4 := b4.keep hBt trivial
                              replace f4 := (hR 4 rfl).trans f4
                              replace f6 := (hR 6 rfl).trans f6
                              have e7 : a16.eval (.tmp 7) = .int .i64 ((j : Int) - 1) := hP 2 (by decide)
                              have f7 := e7
                              replace Gv := Gv.rl hr
                              replace HB := HB.trans (hBt.below HB.size (UpOld.all (bx := []) trivial))
                              clear hBt hr hR hP hX hU
                              exact ⟨j, by omega, hn, hd, f4, b4, HB, Gv, by omega, f6.trans (congrArg (Value.int .i64) hst), f7⟩
                        · skip
                          obtain ⟨hst, hd1, hd2, hd3⟩ := int_step (Gv.1.2.1.1) (show j < vs.length by omega) hc32 HN
                          replace f6 := f6.trans (show _ = Value.int .i64 (Dm.val (vs.drop (j + 1))) by rw [hc32]; rfl)
                          simp only [Bool.false_eq_true, if_false] at hd1 hst
                          refine region4 [some 41, some 42, some 43, some 44, some 45, some 46, some 47, some 48, some 6] [Eqs (.int .i64 (Dm.val (vs.drop (j + 1)))), Eqs (.int .i64 ((Dm.val (vs.drop (j + 1))) * 10000)), Eqs (.pointer (some ⟨gs2 0, 1, none⟩)), Eqs (.slice a_3 vs.length c_3), Eqs (.int .i64 (j : Int)), Eqs (.pointer (some ⟨bD, oD + j, none⟩)), Eqs (.int .i64 (vs.getD j 0)), Eqs (.int .i64 (((Dm.val (vs.drop (j + 1))) * 10000) + (vs.getD j 0))), Eqs (.int .i64 (((Dm.val (vs.drop (j + 1))) * 10000) + (vs.getD j 0)))] [] [(8, 0)] (by kernel_rfl) hn rfl (by kernel_rfl) (by kernel_rfl) (by kernel_rfl) (by kernel_rfl) (by kernel_rfl) (by kernel_rfl) ⟨Eqs.mono4 _, Eqs.mono4 _, Eqs.mono4 _, Eqs.mono4 _, Eqs.mono4 _, Eqs.mono4 _, Eqs.mono4 _, Eqs.mono4 _, Eqs.mono4 _, trivial⟩ ok_nil (IsOld.all (bx := []) trivial) (DisOld.all (bx := []) trivial) ?_ ?_
                          · exact ⟨.norm 41 rfl rfl rfl (fun a_ w_ hn_ hBt hr hR hD hO hS => op_mv ((hS 8 6 rfl rfl).trans f6)),
                              .norm 42 rfl rfl rfl (fun a_ w_ hn_ hBt hr hR hD hO hS => op_mulk (show a_.eval (.tmp 41) = .int .i64 (Dm.val (vs.drop (j + 1))) from hD 0 rfl) (by omega)),
                              .norm 43 rfl rfl rfl (fun a_ w_ hn_ hBt hr hR hD hO hS => op_faN fa_ndig ((hR 4 rfl).trans f4)),
                              .norm 44 rfl rfl rfl (fun a_ w_ hn_ hBt hr hR hD hO hS => op_ldndig (show a_.eval (.tmp 43) = .pointer (some ⟨gs2 0, 1, none⟩) from hD 2 rfl) (b4.keep hBt trivial)),
                              .norm 45 rfl rfl rfl (fun a_ w_ hn_ hBt hr hR hD hO hS => op_mv ((hR 7 rfl).trans f7)),
                              .norm 46 rfl rfl rfl (fun a_ w_ hn_ hBt hr hR hD hO hS => op_idxi eD (show a_.eval (.tmp 44) = .slice a_3 vs.length c_3 from hD 3 rfl) (show a_.eval (.tmp 45) = .int .i64 (j : Int) from hD 4 rfl) (by omega)),
                              .norm 47 rfl rfl rfl (fun a_ w_ hn_ hBt hr hR hD hO hS => op_ldi (show a_.eval (.tmp 46) = .pointer (some ⟨bD, oD + j, none⟩) from hD 5 rfl) (dcell (Gv.rl hr).1.1 eD (by omega))),
                              .norm 48 rfl rfl rfl (fun a_ w_ hn_ hBt hr hR hD hO hS => op_plus (show a_.eval (.tmp 42) = .int .i64 ((Dm.val (vs.drop (j + 1))) * 10000) from hD 1 rfl) (show a_.eval (.tmp 47) = .int .i64 (vs.getD j 0) from hD 6 rfl) (by omega)),
                              .norm 6 rfl rfl rfl (fun a_ w_ hn_ hBt hr hR hD hO hS => op_assign (show a_.eval (.tmp 48) = .int .i64 (((Dm.val (vs.drop (j + 1))) * 10000) + (vs.getD j 0)) from hD 7 rfl)),
                              trivial⟩
                          · intro a17 w17 gs17 hn17 hd17 hBt hr hR hP hX hU
                            replace hn := hn17; replace hd := hd17.trans hd
                            replace b4 := b4.keep hBt trivial
                            replace f4 := (hR 4 rfl).trans f4
                            replace f7 := (hR 7 rfl).trans f7
                            have e6 : a17.eval (.tmp 6) = .int .i64 (((Dm.val (vs.drop (j + 1))) * 10000) + (vs.getD j 0)) := hP 8 (by decide)
                            have f6 := e6
                            replace Gv := Gv.rl hr
                            replace HB := HB.trans (hBt.below HB.size (UpOld.all (bx := []) trivial))
                            clear hBt hr hR hP hX hU
                            refine block_normal ?_
                            refine region4 [some 29, some 30, some 7] [Eqs (.int .i64 (j : Int)), Eqs (.int .i64 ((j : Int) - 1)), Eqs (.int .i64 ((j : Int) - 1))] [] [(2, 0)] (by kernel_rfl) hn rfl (by kernel_rfl) (by kernel_rfl) (by kernel_rfl) (by kernel_rfl) (by kernel_rfl) (by kernel_rfl) ⟨Eqs.mono4 _, Eqs.mono4 _, Eqs.mono4 _, trivial⟩ ok_nil (IsOld.all (bx := []) trivial) (DisOld.all (bx := []) trivial) ?_ ?_
                            · exact ⟨.norm 29 rfl rfl rfl (fun a_ w_ hn_ hBt hr hR hD hO hS => op_mv ((hS 2 7 rfl rfl).trans f7)),
                                .norm 30 rfl rfl rfl (fun a_ w_ hn_ hBt hr hR hD hO hS => op_subk (show a_.eval (.tmp 29) = .int .i64 (j : Int) from hD 0 rfl) (by omega)),
                                .norm 7 rfl rfl rfl (fun a_ w_ hn_ hBt hr hR hD hO hS => op_assign (show a_.eval (.tmp 30) = .int .i64 ((j : Int) - 1) from hD 1 rfl)),
                                trivial⟩
                            · intro a18 w18 gs18 hn18 hd18 hBt hr hR hP hX hU
                              replace hn := hn18; replace hd := hd18.trans hd
                              replace b4 := b4.keep hBt trivial
                              replace f4 := (hR 4 rfl).trans f4
                              replace f6 := (hR 6 rfl).trans f6
                              have e7 : a18.eval (.tmp 7) = .int .i64 ((j : Int) - 1) := hP 2 (by decide)
                              have f7 := e7
                              replace Gv := Gv.rl hr
                              replace HB := HB.trans (hBt.below HB.size (UpOld.all (bx := []) trivial))
                              clear hBt hr hR hP hX hU
                              exact ⟨j, by omega, hn, hd, f4, b4, HB, Gv, by omega, f6.trans (congrArg (Value.int .i64) hst), f7⟩
                    · skip
                      have hc28' := of_decide_eq_false hc28
                      obtain rfl : n = 0 := by omega
                      replace f6 := f6.trans (show _ = Value.int .i64 zx by rw [List.drop_zero]; exact congrArg _ HZ)
                      refine wp_exit ?_
                      repeat (first | refine then_exit ?_ | refine scope_exit ?_ | refine block_pass (by decide) ?_)
                      refine block_exit ?_
                      refine wp_seq ?_
                      refine region4 [some 49, some 2, some 3] [Eqs (.int .i64 zx), Eqs (.int .i64 zx), Eqs ((.bool true))] [] [] (by kernel_rfl) hn rfl (by kernel_rfl) (by kernel_rfl) (by kernel_rfl) (by kernel_rfl) (by kernel_rfl) (by kernel_rfl) ⟨Eqs.mono4 _, Eqs.mono4 _, Eqs.mono4 _, trivial⟩ ok_nil (IsOld.all (bx := []) trivial) (DisOld.all (bx := []) trivial) ?_ ?_
                      · exact ⟨.norm 49 rfl rfl rfl (fun a_ w_ hn_ hBt hr hR hD hO hS => op_mv ((hR 6 rfl).trans f6)),
                          .norm 2 rfl rfl rfl (fun a_ w_ hn_ hBt hr hR hD hO hS => op_assign (show a_.eval (.tmp 49) = .int .i64 zx from hD 0 rfl)),
                          .norm 3 rfl rfl rfl (fun a_ w_ hn_ hBt hr hR hD hO hS => op_assign rfl),
                          trivial⟩
                      · intro a19 w19 gs19 hn19 hd19 hBt hr hR hP hX hU
                        replace hn := hn19; replace hd := hd19.trans hd
                        have e2 : a19.eval (.tmp 2) = .int .i64 zx := hP 1 (by decide)
                        have f2 := e2
                        have e3 : a19.eval (.tmp 3) = (.bool true) := hP 2 (by decide)
                        have f3 := e3
                        replace Gv := Gv.rl hr
                        replace HB := HB.trans (hBt.below HB.size (UpOld.all (bx := []) trivial))
                        clear hBt hr hR hP hX hU
                        refine wp_ret ?_
                        repeat (first | refine then_ret ?_ | refine scope_ret ?_ | refine block_ret ?_)
                        exact bodyPost_ret (v := .tuple #[.int .i64 zx, .bool true]) (res_tt rfl f2 f3) hd ⟨_, rfl, ⟨_, _, rfl, (by simp [Eqs, intI]; omega), (by simp [Eqs, inI]; omega)⟩, HB⟩

theorem has_r2int : Has Try.prog 11 := by unfold Has; kernel_rfl
theorem op_r2int {dst : Option Tmp} {ty : TypeId} {pos : String} {after : Array Edge} {guard : Option (Nat × Bool)} {a : Act} {w : World} {ats : Array TypeId} {i : Nat} {Bx : Nat} {zx : Int} (Hx : IsW zx Bx (a.eval (.tmp i)) w) (hL : Bx ≤ 100000) :
    Does Try.prog { dst, op := .call { callee := .value (.func 11), args := #[.tmp i], argTypes := ats }, type := ty, pos, after, guard } a.eval w fun v w' => Below w.heap.size w w' ∧ (Tup2 (Eqs (.int .i64 (intI zx))) (Eqs (.bool (inI zx)))) v w' := by
  obtain ⟨nx, ax, mx, cx, xs, ex, Ax, Lx⟩ := Hx
  refine does_call has_r2int _ (by simp only [List.map_toArray, List.map_cons, List.map_nil, ex]) ((r2int_z w Bx _ _ _ _ _ _ Ax Lx hL).mono ?_)
  rintro e w' ⟨v, rfl, h1, hb⟩
  exact ⟨_, rfl, hb, h1⟩

end Lm
end Go.Proofs.Ytjhhjefobbhdlaa

namespace Go.Proofs.Ytjhhjefobbhdlaa
namespace Lm
open Go Go.RowKit

theorem i64_wf {v : Int} (h : (Lit.int .i64 v).wf = true) : -9223372036854775808 ≤ v ∧ v ≤ 9223372036854775807 := by
  simp [Lit.wf, IntKind.min, IntKind.max, IntKind.signed, IntKind.bits] at h
  omega
theorem has_wawake : Has Try.prog 7 := by unfold Has; kernel_rfl
theorem op_wawake {dst : Option Tmp} {ty : TypeId} {pos : String} {after : Array Edge} {guard : Option (Nat × Bool)} {a : Act} {w : World} {ats : Array TypeId} :
    Does Try.prog { dst, op := .call { callee := .value (.func 7), args := #[], argTypes := ats }, type := ty, pos, after, guard } a.eval w fun v w' => Below w.heap.size w w' ∧ Eqs (.bool true) v w' := by
  refine does_call has_wawake #[] (by simp) ((wawake_any w).mono ?_)
  rintro e w' ⟨rfl, hb⟩
  exact ⟨_, rfl, hb, rfl⟩
set_option maxRecDepth 20000 in
set_option maxHeartbeats 4000000 in
theorem wreads_law (w : World) (v : Int) (nx : Bool) (ax : Option Addr) (mx cx : Nat) (xs : List Int) (zx : Int) (Wv : (Lit.int .i64 v).wf = true) (Ax : Ag w nx ax mx cx xs zx) (gx : mx ≤ 35184372088832) :
    Calls Try.prog 3 #[.int .i64 v, .agg #[.bool nx, .slice ax mx cx]] w fun e w' => e = .returned (.bool true) ∧ Below w.heap.size w w' := by
  go_enter Try.func3, Try.ntmps3
  generalize hA : (Act.mk _ _) = aa
  have hn : aa.tmps.size = 79 := by rw [← hA]; rfl
  have hd : aa.defers = [] := by rw [← hA]
  have f0 : aa.eval (.tmp 0) = .int .i64 v := by rw [← hA]; rfl
  have f1 : aa.eval (.tmp 1) = .agg #[.bool nx, .slice ax mx cx] := by rw [← hA]; rfl
  clear hA
  have HB : Below w.heap.size w w := Below.refl _ _
  have Tx := Ax.sl
  have Ax0 := Ax
  obtain ⟨mL, hmL⟩ := isLen_ex Ax
  obtain ⟨hv1, hv2⟩ := i64_wf Wv
  refine wp_seq ?_
  refine region4 [some 3, some 4] [(fun _ _ => True), Eqs ((.bool false))] [⟨W2, some 0, 0, 3, .agg #[.bool nx, .slice ax mx cx], none, []⟩] [] (by kernel_rfl) hn rfl (by kernel_rfl) (by kernel_rfl) (by kernel_rfl) (by kernel_rfl) (by kernel_rfl) (by kernel_rfl) ⟨True.mono4, Eqs.mono4 _, trivial⟩ (ok_cons W2ok ok_nil) (IsOld.all (bx := [⟨W2, some 0, 0, 3, .agg #[.bool nx, .slice ax mx cx], none, []⟩]) ⟨someNe, trivial⟩) (DisOld.all (bx := [⟨W2, some 0, 0, 3, .agg #[.bool nx, .slice ax mx cx], none, []⟩]) ⟨someNe, trivial⟩) ?_ ?_
  · exact ⟨.alloc 0 _ rfl rfl (.inr ⟨_, rfl, w2_cs, fun a_ hR => (hR 1 rfl).trans f1⟩) rfl rfl rfl rfl rfl,
      .norm 4 rfl rfl rfl (fun a_ w_ hn_ hBt hr hR hD hO hS => op_assign rfl),
      trivial⟩
  · intro a1 w1 gs1 hn1 hd1 hBt hr hR hP hX hU
    replace hn := hn1; replace hd := hd1.trans hd
    have b3 : BoxV W2 w1 (gs1 0) (.agg #[.bool nx, .slice ax mx cx]) := (hX 0 _ rfl).2.2.2
    have f3 := (hX 0 _ rfl).1
    have u3 : w.heap.size ≤ gs1 0 := Nat.le_trans HB.size ((hX 0 _ rfl).2.2.1 (by simp))
    replace f0 := (hR 0 rfl).trans f0
    have e4 : a1.eval (.tmp 4) = (.bool false) := hP 1 (by decide)
    have f4 := e4
    replace Ax := Ax.rl hr
    replace Tx := Tx.rl hr
    replace HB := HB.trans (hBt.below HB.size (UpOld.all (bx := [⟨W2, some 0, 0, 3, .agg #[.bool nx, .slice ax mx cx], none, []⟩]) ⟨someNe, trivial⟩))
    clear hBt hr hR hP hX hU
    refine wp_seq ?_
    refine wp_seq ?_
    refine region4 [some 14, some 15] [Eqs (.bool true), Eqs (.bool false)] [] [] (by kernel_rfl) hn rfl (by kernel_rfl) (by kernel_rfl) (by kernel_rfl) (by kernel_rfl) (by kernel_rfl) (by kernel_rfl) ⟨Eqs.mono4 _, Eqs.mono4 _, trivial⟩ ok_nil (IsOld.all (bx := []) trivial) (DisOld.all (bx := []) trivial) ?_ ?_
    · exact ⟨.norm 14 rfl rfl rfl (fun a_ w_ hn_ hBt hr hR hD hO hS => op_wawake),
        .norm 15 rfl rfl rfl (fun a_ w_ hn_ hBt hr hR hD hO hS => op_not (show a_.eval (.tmp 14) = .bool true from hD 0 rfl)),
        trivial⟩
    · intro a2 w2 gs2 hn2 hd2 hBt hr hR hP hX hU
      replace hn := hn2; replace hd := hd2.trans hd
      replace b3 := b3.keep hBt trivial
      replace f0 := (hR 0 rfl).trans f0
      replace f3 := (hR 3 rfl).trans f3
      replace f4 := (hR 4 rfl).trans f4
      have e15 : a2.eval (.tmp 15) = .bool false := hP 1 (by decide)
      have f15 := e15
      replace Ax := Ax.rl hr
      replace Tx := Tx.rl hr
      replace HB := HB.trans (hBt.below HB.size (UpOld.all (bx := []) trivial))
      clear hBt hr hR hP hX hU
      refine wp_cond_false f15 ?_
      refine wp_skip ?_
      refine wp_seq ?_
      refine wp_seq ?_
      refine region4 [some 16, some 17, some 18] [Eqs (.agg #[.bool nx, .slice ax mx cx]), Eqs (.int .i64 (1 + (mx : Int))), Eqs (.bool (decide (1500 < (1 + (mx : Int)))))] [] [] (by kernel_rfl) hn rfl (by kernel_rfl) (by kernel_rfl) (by kernel_rfl) (by kernel_rfl) (by kernel_rfl) (by kernel_rfl) ⟨Eqs.mono4 _, Eqs.mono4 _, Eqs.mono4 _, trivial⟩ ok_nil (IsOld.all (bx := []) trivial) (DisOld.all (bx := []) trivial) ?_ ?_
      · exact ⟨.norm 16 rfl rfl rfl (fun a_ w_ hn_ hBt hr hR hD hO hS => op_loadv W2ok ((hR 3 rfl).trans f3) (b3.keep hBt trivial)),
          .norm 17 rfl rfl rfl (fun a_ w_ hn_ hBt hr hR hD hO hS => op_lenw (show a_.eval (.tmp 16) = .agg #[.bool nx, .slice ax mx cx] from hD 0 rfl) (by omega)),
          .norm 18 rfl rfl rfl (fun a_ w_ hn_ hBt hr hR hD hO hS => op_gtrk (show a_.eval (.tmp 17) = .int .i64 (1 + (mx : Int)) from hD 1 rfl)),
          trivial⟩
      · intro a3 w3 gs3 hn3 hd3 hBt hr hR hP hX hU
        replace hn := hn3; replace hd := hd3.trans hd
        replace b3 := b3.keep hBt trivial
        replace f0 := (hR 0 rfl).trans f0
        replace f3 := (hR 3 rfl).trans f3
        replace f4 := (hR 4 rfl).trans f4
        have e18 : a3.eval (.tmp 18) = .bool (decide (1500 < (1 + (mx : Int)))) := hP 2 (by decide)
        have f18 := e18
        replace Ax := Ax.rl hr
        replace Tx := Tx.rl hr
        replace HB := HB.trans (hBt.below HB.size (UpOld.all (bx := []) trivial))
        clear hBt hr hR hP hX hU
        refine wp_cond_split f18 (fun hc18 => ?_) (fun hc18 => ?_)
        · skip
          refine wp_seq ?_
          refine region4 [some 4] [Eqs ((.bool true))] [] [] (by kernel_rfl) hn rfl (by kernel_rfl) (by kernel_rfl) (by kernel_rfl) (by kernel_rfl) (by kernel_rfl) (by kernel_rfl) ⟨Eqs.mono4 _, trivial⟩ ok_nil (IsOld.all (bx := []) trivial) (DisOld.all (bx := []) trivial) ?_ ?_
          · exact ⟨.norm 4 rfl rfl rfl (fun a_ w_ hn_ hBt hr hR hD hO hS => op_assign rfl),
              trivial⟩
          · intro a4 w4 gs4 hn4 hd4 hBt hr hR hP hX hU
            replace hn := hn4; replace hd := hd4.trans hd
            replace b3 := b3.keep hBt trivial
            replace f0 := (hR 0 rfl).trans f0
            replace f3 := (hR 3 rfl).trans f3
            have e4 : a4.eval (.tmp 4) = (.bool true) := hP 0 (by decide)
            have f4 := e4
            replace Ax := Ax.rl hr
            replace Tx := Tx.rl hr
            replace HB := HB.trans (hBt.below HB.size (UpOld.all (bx := []) trivial))
            clear hBt hr hR hP hX hU
            refine wp_ret ?_
            repeat (first | refine then_ret ?_ | refine scope_ret ?_ | refine block_ret ?_)
            exact bodyPost_ret (v := .bool true) (res_t rfl f4) hd ⟨rfl, HB⟩
        · skip
          have hlen := of_decide_eq_false hc18
          have ox := Ax.sl.parts.1; have Lx : xs.length ≤ 1500 := by omega
          refine wp_skip ?_
          refine wp_seq ?_
          refine wp_of_good (by kernel_rfl) (by kernel_rfl) (fun w_0 hb_0 => ?_)
          replace b3 := b3.below hb_0
          replace Ax := Ax.below hb_0
          replace Tx := Tx.below hb_0
          replace HB := HB.trans (hb_0.mono HB.size); clear hb_0
          refine good6 0 0 (some 0) [some 5] [(fun _ _ => True)] [] [] [] [] [] (by kernel_rfl) hn rfl (by kernel_rfl) (by kernel_rfl) (by kernel_rfl) (by kernel_rfl) (by kernel_rfl) (by kernel_rfl) (by kernel_rfl) (by kernel_rfl) (by kernel_rfl) (by decide) ⟨True.mono5, trivial⟩ trivial xok_nil ok_nil (IsOld.all (bx := []) trivial) (DisOld.all (bx := []) trivial) trivial ?_ ?_ ?_
          · exact ⟨.inl rfl,
              trivial⟩
          rotate_left
          · exact fun h => by cases h
          · intro t_ o_ ht_ ho_ a5 w5 gs5 B5 T5 F_
            obtain rfl := Option.some.inj ht_; obtain rfl := Option.some.inj ho_; clear ht_ ho_
            obtain ⟨hn5, hd5, hBt, hr, hR, hP, hTs, hLi, hX, hU, hRel, hSl⟩ := F_
            replace hn := hn5; replace hd := hd5.trans hd
            replace b3 := b3.keep5 hBt trivial trivial
            replace f0 := (hR 0 rfl).trans f0
            replace f3 := (hR 3 rfl).trans f3
            replace f4 := (hR 4 rfl).trans f4
            replace Ax := Ax.ru hr
            replace Tx := Tx.ru hr
            replace HB := HB.trans (hBt.below HB.size (UpOld.all (bx := []) trivial) (UpX.all (bx := []) trivial))
            clear hBt hr hR hP hTs hLi hX hU hRel hSl
            refine ⟨trivial, op_lendn.mono ?_⟩
            rintro v_ w6 ⟨rfl, LNh, hbN⟩
            obtain ⟨gLh, hgh⟩ : ∃ g, g = w5.heap.size := ⟨_, rfl⟩
            rw [← hgh] at LNh ⊢
            have uLh : w.heap.size ≤ gLh := by rw [hgh]; exact HB.size
            replace b3 := b3.below hbN
            replace Ax := Ax.below hbN
            replace Tx := Tx.below hbN
            replace HB := HB.trans (hbN.mono HB.size); clear hbN
            change Good _ _ _ _ _ (Act.put a5 (some 5) (.pointer (some ⟨gLh, 0, none⟩))) _
            have q_ : 5 < a5.tmps.size := by rw [hn]; decide
            generalize hA_ : Act.put a5 (some 5) (.pointer (some ⟨gLh, 0, none⟩)) = a7
            replace hn : a7.tmps.size = 79 := by rw [← hA_, put_tmps]; simp [hn]
            replace hd : a7.defers = [] := by rw [← hA_]; exact hd
            replace f0 : a7.eval (.tmp 0) = .int .i64 v := by rw [← hA_]; exact (eval_put_ne (by decide)).trans f0
            replace f3 : a7.eval (.tmp 3) = .pointer (some ⟨gs1 0, 0, none⟩) := by rw [← hA_]; exact (eval_put_ne (by decide)).trans f3
            replace f4 : a7.eval (.tmp 4) = (.bool false) := by rw [← hA_]; exact (eval_put_ne (by decide)).trans f4
            have f5 : a7.eval (.tmp 5) = .pointer (some ⟨gLh, 0, none⟩) := by rw [← hA_]; exact eval_put_same q_
            clear q_
            clear hA_
            refine good6 1 1 none [some 5] [Eqs (.pointer (some ⟨gLh, 0, none⟩))] [] [] [] [] [] (by kernel_rfl) hn rfl (by kernel_rfl) (by kernel_rfl) (by kernel_rfl) (by kernel_rfl) (by kernel_rfl) (by kernel_rfl) (by kernel_rfl) (by kernel_rfl) (by kernel_rfl) (by decide) ⟨Eqs.mono5 _, trivial⟩ trivial xok_nil ok_nil (IsOld.all (bx := []) trivial) (DisOld.all (bx := []) trivial) ⟨trivial, f5⟩ ?_ ?_ ?_
            · exact ⟨.inl rfl,
                trivial⟩
            · exact fun _ _ h => by cases h
            · intro _ a8 w8 gs8 B8 T8 F_
              obtain ⟨hn8, hd8, hBt, hr, hR, hP, hTs, hLi, hX, hU, hRel, hSl⟩ := F_
              replace hn := hn8; replace hd := hd8.trans hd
              replace b3 := b3.keep5 hBt trivial trivial
              replace f0 := (hR 0 rfl).trans f0
              replace f3 := (hR 3 rfl).trans f3
              replace f4 := (hR 4 rfl).trans f4
              have e5 : a8.eval (.tmp 5) = .pointer (some ⟨gLh, 0, none⟩) := hP 0 (by decide)
              have f5 := e5
              have hBl_ := hBt.below (Nat.le_refl _) (UpOld.all (bx := []) trivial) (UpX.all (bx := []) trivial)
              replace Ax := Ax.ru hr
              replace Tx := Tx.ru hr
              replace LNh := LNh.below hBl_
              replace HB := HB.trans (hBt.below HB.size (UpOld.all (bx := []) trivial) (UpX.all (bx := []) trivial))
              clear hBt hr hR hP hTs hLi hX hU hRel hSl
              refine wp_seq ?_
              refine wp_of_good (by kernel_rfl) (by kernel_rfl) (fun w_0 hb_0 => ?_)
              replace b3 := b3.below hb_0
              replace Ax := Ax.below hb_0
              replace Tx := Tx.below hb_0
              replace LNh := LNh.below hb_0
              replace HB := HB.trans (hb_0.mono HB.size); clear hb_0
              have nx3 : (gs1 0) ≠ gLh := lendn_ne LNh b3
              refine good6 0 8 none [some 19, some 20, some 21, some 22, some 23, some 24, some 6, none] [Eqs (.pointer (some ⟨gs1 0, 0, none⟩)), Eqs (.bool nx), Eqs (.pointer (some ⟨gs1 0, 1, none⟩)), Eqs (.slice ax mx cx), IsL ((val xs)) (xs.length), IsW ((sg nx (val xs))) (xs.length), (fun _ _ => True), (fun _ _ => True)] [] [(5, 4, fun v u => u = .agg #[.bool nx, v])] [⟨W2, some 6, 0, 6, .agg #[.bool false, .slice none 0 0], some (7, 24, 5), []⟩] [⟨4, gLh, LentS gLh w_0.heap.size xs⟩] [] (by kernel_rfl) hn rfl (by kernel_rfl) (by kernel_rfl) (by kernel_rfl) (by kernel_rfl) (by kernel_rfl) (by kernel_rfl) (by kernel_rfl) (by kernel_rfl) (by kernel_rfl) (by decide) ⟨Eqs.mono5 _, Eqs.mono5 _, Eqs.mono5 _, Eqs.mono5 _, IsL.mono5 _ _, IsW.mono5 _ _, True.mono5, True.mono5, trivial⟩ trivial (xok_one LNh.lt (NeOld.all (bx := [⟨W2, some 6, 0, 6, .agg #[.bool false, .slice none 0 0], some (7, 24, 5), []⟩]) ⟨someNe, trivial⟩) LentS.pres) (ok_cons W2ok ok_nil) (IsOld.all (bx := [⟨W2, some 6, 0, 6, .agg #[.bool false, .slice none 0 0], some (7, 24, 5), []⟩]) ⟨someNe, trivial⟩) (DisOld.all (bx := [⟨W2, some 6, 0, 6, .agg #[.bool false, .slice none 0 0], some (7, 24, 5), []⟩]) ⟨someNe, trivial⟩) trivial ?_ ?_ ?_
              · exact ⟨.inr (.norm 19 rfl rfl (nxt rfl) rfl (fun a_ w_ hn_ hBt hr hR hD hO hS => d6 rfl (op_fa fa_neg ((hR 3 rfl).trans f3)))),
                  .inr (.norm 20 rfl rfl (nxt rfl) rfl (fun a_ w_ hn_ hBt hr hR hD hO hS => d6 rfl (op_ldneg (show a_.eval (.tmp 19) = .pointer (some ⟨gs1 0, 0, none⟩) from hD 0 rfl) (b3.keep5 hBt ⟨someNe, trivial⟩ ⟨(nx3).symm, trivial⟩)))),
                  .inr (.norm 21 rfl rfl (nxt rfl) rfl (fun a_ w_ hn_ hBt hr hR hD hO hS => d6 rfl (op_fa fa_mag ((hR 3 rfl).trans f3)))),
                  .inr (.norm 22 rfl rfl (nxt rfl) rfl (fun a_ w_ hn_ hBt hr hR hD hO hS => d6 rfl (op_ldmag (show a_.eval (.tmp 21) = .pointer (some ⟨gs1 0, 1, none⟩) from hD 2 rfl) (b3.keep5 hBt ⟨someNe, trivial⟩ ⟨(nx3).symm, trivial⟩)))),
                  .inr (.touch _ (List.mem_singleton.2 rfl) rfl 23 rfl rfl rfl rfl (fun a_ w_ hn_ hBt hr hR hD hO hS hm_ => op_lend (gL := gLh) rfl ((hR 5 rfl).trans f5) (show a_.eval (.tmp 22) = .slice ax mx cx from hD 3 rfl) (hm_.trans LNh) (Ax0.below (HB.trans (hBt.below HB.size (UpOld.all (bx := [⟨W2, some 6, 0, 6, .agg #[.bool false, .slice none 0 0], some (7, 24, 5), []⟩]) ⟨someNe, trivial⟩) (UpX.all (bx := [⟨4, gLh, LentS gLh w_0.heap.size xs⟩]) ⟨uLh, trivial⟩)))).sl (by omega) (fun h0 b off e => by have := Ax0.sl.lt h0 b off e; omega) hBt.size)),
                  .inr (.norm 24 rfl rfl (nxt rfl) rfl (fun a_ w_ hn_ hBt hr hR hD hO hS => op_bWl rfl (show a_.eval (.tmp 20) = .bool nx from hD 1 rfl) (show IsL ((val xs)) (xs.length) (a_.eval (.tmp 23)) w_ from hD 4 rfl))),
                  .inr (.alloc 0 _ rfl rfl (.inl ⟨rfl, rfl⟩) rfl rfl rfl rfl rfl (nxt rfl) rfl rfl),
                  .inr (.store 0 _ _ _ rfl rfl rfl rfl rfl rfl rfl rfl rfl (nxt rfl) (fun ia h => by cases h; rfl) rfl rfl rfl IsW.cs),
                  trivial⟩
              · exact fun _ _ h => by cases h
              · intro _ a9 w9 gs9 B9 T9 F_
                obtain ⟨hn9, hd9, hBt, hr, hR, hP, hTs, hLi, hX, hU, hRel, hSl⟩ := F_
                replace hn := hn9; replace hd := hd9.trans hd
                replace b3 := b3.keep5 hBt ⟨someNe, trivial⟩ ⟨(nx3).symm, trivial⟩
                obtain ⟨gx, e23, LSh, ugx, lgx⟩ := hTs _ (List.mem_singleton.2 rfl) (show 4 < 8 by decide)
                have uwx : w.heap.size ≤ gx := Nat.le_trans HB.size ugx
                have e24 : a9.eval (.tmp 24) = .agg #[.bool nx, .slice (some ⟨gx, 5, none⟩) xs.length (xs.length + 5)] := (show a9.eval (.tmp 24) = .agg #[.bool nx, a9.eval (.tmp 23)] from hRel _ (List.mem_singleton.2 rfl) (show 0 ≤ 5 by decide) (show 5 < 8 by decide)).trans (by rw [show a9.eval (.tmp 23) = _ from e23])
                have ALx : Ag w9 nx (some ⟨gx, 5, none⟩) xs.length (xs.length + 5) xs zx := ⟨LSh.sl (by omega), Ax0.worth⟩
                have b6 : BoxV W2 w9 (gs9 0) (.agg #[.bool nx, .slice (some ⟨gx, 5, none⟩) xs.length (xs.length + 5)]) := boxv_of (hX 0 _ rfl).2.2.2 e24
                have f6 := (hX 0 _ rfl).1
                have v6 := (hX 0 _ rfl).2.2.1 (by simp)
                have u6 : w.heap.size ≤ gs9 0 := Nat.le_trans HB.size v6
                replace f0 := (hR 0 rfl).trans f0
                replace f3 := (hR 3 rfl).trans f3
                replace f4 := (hR 4 rfl).trans f4
                replace f5 := (hR 5 rfl).trans f5
                replace Ax := Ax.ru hr
                replace Tx := Tx.ru hr
                replace HB := HB.trans (hBt.below HB.size (UpOld.all (bx := [⟨W2, some 6, 0, 6, .agg #[.bool false, .slice none 0 0], some (7, 24, 5), []⟩]) ⟨someNe, trivial⟩) (UpX.all (bx := [⟨4, gLh, LentS gLh w_0.heap.size xs⟩]) ⟨uLh, trivial⟩))
                clear hBt hr hR hP hTs hLi hX hU hRel hSl
                refine wp_seq ?_
                refine region4 [some 26, some 27, some 25, some 28, some 29, some 7, some 8] [Eqs (.agg #[.bool nx, .slice (some ⟨gx, 5, none⟩) xs.length (xs.length + 5)]), Tup2 (Eqs (.int .i64 (intI zx))) (Eqs (.bool (inI zx))), Tup2 (Eqs (.int .i64 (intI zx))) (Eqs (.bool (inI zx))), Eqs (.int .i64 (intI zx)), Eqs (.bool (inI zx)), Eqs (.int .i64 (intI zx)), Eqs (.bool (inI zx))] [] [] (by kernel_rfl) hn rfl (by kernel_rfl) (by kernel_rfl) (by kernel_rfl) (by kernel_rfl) (by kernel_rfl) (by kernel_rfl) ⟨Eqs.mono4 _, Tup2.mono4 (Eqs.mono4 _) (Eqs.mono4 _), Tup2.mono4 (Eqs.mono4 _) (Eqs.mono4 _), Eqs.mono4 _, Eqs.mono4 _, Eqs.mono4 _, Eqs.mono4 _, trivial⟩ ok_nil (IsOld.all (bx := []) trivial) (DisOld.all (bx := []) trivial) ?_ ?_
                · exact ⟨.norm 26 rfl rfl rfl (fun a_ w_ hn_ hBt hr hR hD hO hS => op_loadv W2ok ((hR 6 rfl).trans f6) (b6.keep hBt trivial)),
                    .norm 27 rfl rfl rfl (fun a_ w_ hn_ hBt hr hR hD hO hS => op_wint (isw_eq (show a_.eval (.tmp 26) = .agg #[.bool nx, .slice (some ⟨gx, 5, none⟩) xs.length (xs.length + 5)] from hD 0 rfl) (ALx.rl hr) Lx)),
                    .norm 25 rfl rfl rfl (fun a_ w_ hn_ hBt hr hR hD hO hS => op_mvp (p := Tup2 (Eqs (.int .i64 (intI zx))) (Eqs (.bool (inI zx)))) (show Tup2 (Eqs (.int .i64 (intI zx))) (Eqs (.bool (inI zx))) (a_.eval (.tmp 27)) w_ from hD 1 rfl)),
                    .norm 28 rfl rfl rfl (fun a_ w_ hn_ hBt hr hR hD hO hS => op_ex20 (show Tup2 (Eqs (.int .i64 (intI zx))) (Eqs (.bool (inI zx))) (a_.eval (.tmp 25)) w_ from hD 2 rfl)),
                    .norm 29 rfl rfl rfl (fun a_ w_ hn_ hBt hr hR hD hO hS => op_ex21 (show Tup2 (Eqs (.int .i64 (intI zx))) (Eqs (.bool (inI zx))) (a_.eval (.tmp 25)) w_ from hD 2 rfl)),
                    .norm 7 rfl rfl rfl (fun a_ w_ hn_ hBt hr hR hD hO hS => op_assign (show a_.eval (.tmp 28) = .int .i64 (intI zx) from hD 3 rfl)),
                    .norm 8 rfl rfl rfl (fun a_ w_ hn_ hBt hr hR hD hO hS => op_assign (show a_.eval (.tmp 29) = .bool (inI zx) from hD 4 rfl)),
                    trivial⟩
                · intro a11 w11 gs11 hn11 hd11 hBt hr hR hP hX hU
                  replace hn := hn11; replace hd := hd11.trans hd
                  replace b3 := b3.keep hBt trivial
                  replace b6 := b6.keep hBt trivial
                  replace f0 := (hR 0 rfl).trans f0
                  replace f3 := (hR 3 rfl).trans f3
                  replace f4 := (hR 4 rfl).trans f4
                  replace f5 := (hR 5 rfl).trans f5
                  replace f6 := (hR 6 rfl).trans f6
                  have e7 : a11.eval (.tmp 7) = .int .i64 (intI zx) := hP 5 (by decide)
                  have f7 := e7
                  have e8 : a11.eval (.tmp 8) = .bool (inI zx) := hP 6 (by decide)
                  have f8 := e8
                  replace Ax := Ax.rl hr
                  replace Tx := Tx.rl hr
                  replace ALx := ALx.rl hr
                  replace HB := HB.trans (hBt.below HB.size (UpOld.all (bx := []) trivial))
                  have hBl_ := hBt.below (Nat.le_refl _) (UpOld.all (bx := []) trivial)
                  replace LSh := LSh.below hBl_
                  clear hBt hr hR hP hX hU
                  refine wp_seq ?_
                  refine region4 [some 31, some 32, some 30, some 33, some 34, some 9, some 10] [Eqs (.agg #[.bool nx, .slice ax mx cx]), Tup2 (Eqs (.int .i64 (intI zx))) (Eqs (.bool (inI zx))), Tup2 (Eqs (.int .i64 (intI zx))) (Eqs (.bool (inI zx))), Eqs (.int .i64 (intI zx)), Eqs (.bool (inI zx)), Eqs (.int .i64 (intI zx)), Eqs (.bool (inI zx))] [] [] (by kernel_rfl) hn rfl (by kernel_rfl) (by kernel_rfl) (by kernel_rfl) (by kernel_rfl) (by kernel_rfl) (by kernel_rfl) ⟨Eqs.mono4 _, Tup2.mono4 (Eqs.mono4 _) (Eqs.mono4 _), Tup2.mono4 (Eqs.mono4 _) (Eqs.mono4 _), Eqs.mono4 _, Eqs.mono4 _, Eqs.mono4 _, Eqs.mono4 _, trivial⟩ ok_nil (IsOld.all (bx := []) trivial) (DisOld.all (bx := []) trivial) ?_ ?_
                  · exact ⟨.norm 31 rfl rfl rfl (fun a_ w_ hn_ hBt hr hR hD hO hS => op_loadv W2ok ((hR 3 rfl).trans f3) (b3.keep hBt trivial)),
                      .norm 32 rfl rfl rfl (fun a_ w_ hn_ hBt hr hR hD hO hS => op_r2int (isw_eq (show a_.eval (.tmp 31) = .agg #[.bool nx, .slice ax mx cx] from hD 0 rfl) (Ax.rl hr) Lx) (by omega)),
                      .norm 30 rfl rfl rfl (fun a_ w_ hn_ hBt hr hR hD hO hS => op_mvp (p := Tup2 (Eqs (.int .i64 (intI zx))) (Eqs (.bool (inI zx)))) (show Tup2 (Eqs (.int .i64 (intI zx))) (Eqs (.bool (inI zx))) (a_.eval (.tmp 32)) w_ from hD 1 rfl)),
                      .norm 33 rfl rfl rfl (fun a_ w_ hn_ hBt hr hR hD hO hS => op_ex20 (show Tup2 (Eqs (.int .i64 (intI zx))) (Eqs (.bool (inI zx))) (a_.eval (.tmp 30)) w_ from hD 2 rfl)),
                      .norm 34 rfl rfl rfl (fun a_ w_ hn_ hBt hr hR hD hO hS => op_ex21 (show Tup2 (Eqs (.int .i64 (intI zx))) (Eqs (.bool (inI zx))) (a_.eval (.tmp 30)) w_ from hD 2 rfl)),
                      .norm 9 rfl rfl rfl (fun a_ w_ hn_ hBt hr hR hD hO hS => op_assign (show a_.eval (.tmp 33) = .int .i64 (intI zx) from hD 3 rfl)),
                      .norm 10 rfl rfl rfl (fun a_ w_ hn_ hBt hr hR hD hO hS => op_assign (show a_.eval (.tmp 34) = .bool (inI zx) from hD 4 rfl)),
                      trivial⟩
                  · intro a12 w12 gs12 hn12 hd12 hBt hr hR hP hX hU
                    replace hn := hn12; replace hd := hd12.trans hd
                    replace b3 := b3.keep hBt trivial
                    replace b6 := b6.keep hBt trivial
                    replace f0 := (hR 0 rfl).trans f0
                    replace f3 := (hR 3 rfl).trans f3
                    replace f4 := (hR 4 rfl).trans f4
                    replace f5 := (hR 5 rfl).trans f5
                    replace f6 := (hR 6 rfl).trans f6
                    replace f7 := (hR 7 rfl).trans f7
                    replace f8 := (hR 8 rfl).trans f8
                    have e9 : a12.eval (.tmp 9) = .int .i64 (intI zx) := hP 5 (by decide)
                    have f9 := e9
                    have e10 : a12.eval (.tmp 10) = .bool (inI zx) := hP 6 (by decide)
                    have f10 := e10
                    replace Ax := Ax.rl hr
                    replace Tx := Tx.rl hr
                    replace ALx := ALx.rl hr
                    replace HB := HB.trans (hBt.below HB.size (UpOld.all (bx := []) trivial))
                    have hBl_ := hBt.below (Nat.le_refl _) (UpOld.all (bx := []) trivial)
                    replace LSh := LSh.below hBl_
                    clear hBt hr hR hP hX hU
                    refine wp_seq ?_
                    refine region4 [some 35, some 36, some 11, none] [Eqs (.agg #[.bool nx, .slice (some ⟨gx, 5, none⟩) xs.length (xs.length + 5)]), FrW (w12.heap.size) (zx) (1500), (fun _ _ => True), (fun _ _ => True)] [⟨W2, some 2, 0, 11, .agg #[.bool false, .slice none 0 0], some (3, 36, 1), []⟩] [] (by kernel_rfl) hn rfl (by kernel_rfl) (by kernel_rfl) (by kernel_rfl) (by kernel_rfl) (by kernel_rfl) (by kernel_rfl) ⟨Eqs.mono4 _, FrW.mono4 _ _ _, True.mono4, True.mono4, trivial⟩ (ok_cons W2ok ok_nil) (IsOld.all (bx := [⟨W2, some 2, 0, 11, .agg #[.bool false, .slice none 0 0], some (3, 36, 1), []⟩]) ⟨someNe, trivial⟩) (DisOld.all (bx := [⟨W2, some 2, 0, 11, .agg #[.bool false, .slice none 0 0], some (3, 36, 1), []⟩]) ⟨someNe, trivial⟩) ?_ ?_
                    · exact ⟨.norm 35 rfl rfl rfl (fun a_ w_ hn_ hBt hr hR hD hO hS => op_loadv W2ok ((hR 6 rfl).trans f6) (b6.keep hBt ⟨someNe, trivial⟩)),
                        .norm 36 rfl rfl rfl (fun a_ w_ hn_ hBt hr hR hD hO hS => ownf hr.size (op_wtrimO (isw_eq (show a_.eval (.tmp 35) = .agg #[.bool nx, .slice (some ⟨gx, 5, none⟩) xs.length (xs.length + 5)] from hD 0 rfl) (ALx.rl hr) Lx) (by omega))),
                        .alloc 0 _ rfl rfl (.inl ⟨rfl, rfl⟩) rfl rfl rfl rfl rfl,
                        .store 0 _ _ _ rfl rfl rfl rfl rfl rfl rfl (fun ia h => by cases h; rfl) rfl rfl rfl FrW.cs,
                        trivial⟩
                    · intro a13 w13 gs13 hn13 hd13 hBt hr hR hP hX hU
                      replace hn := hn13; replace hd := hd13.trans hd
                      replace b3 := b3.keep hBt ⟨someNe, trivial⟩
                      replace b6 := b6.keep hBt ⟨someNe, trivial⟩
                      obtain ⟨n_14, a_14, c_14, r_14, B14, T14, e36, F14, fb14, ft14, l14⟩ : FrW (w12.heap.size) (zx) (1500) (a13.eval (.tmp 36)) w13 := hP 1 (by decide)
                      have G14 := F14.wh; have A14 := G14.ag
                      have lq14LSh := LSh.lt
                      have b11 : BoxV W2 w13 (gs13 0) (.agg #[.bool n_14, .slice a_14 r_14.length c_14]) := boxv_of (hX 0 _ rfl).2.2.2 e36
                      have f11 := (hX 0 _ rfl).1
                      have u11 : w.heap.size ≤ gs13 0 := Nat.le_trans HB.size ((hX 0 _ rfl).2.2.1 (by simp))
                      replace f0 := (hR 0 rfl).trans f0
                      replace f3 := (hR 3 rfl).trans f3
                      replace f4 := (hR 4 rfl).trans f4
                      replace f5 := (hR 5 rfl).trans f5
                      replace f6 := (hR 6 rfl).trans f6
                      replace f7 := (hR 7 rfl).trans f7
                      replace f8 := (hR 8 rfl).trans f8
                      replace f9 := (hR 9 rfl).trans f9
                      replace f10 := (hR 10 rfl).trans f10
                      replace Ax := Ax.rl hr
                      replace Tx := Tx.rl hr
                      replace ALx := ALx.rl hr
                      replace HB := HB.trans (hBt.below HB.size (UpOld.all (bx := [⟨W2, some 2, 0, 11, .agg #[.bool false, .slice none 0 0], some (3, 36, 1), []⟩]) ⟨someNe, trivial⟩))
                      have hBl_ := hBt.below (Nat.le_refl _) (UpOld.all (bx := [⟨W2, some 2, 0, 11, .agg #[.bool false, .slice none 0 0], some (3, 36, 1), []⟩]) ⟨someNe, trivial⟩)
                      replace LSh := LSh.below hBl_
                      clear hBt hr hR hP hX hU
                      refine wp_seq ?_
                      refine region4 [some 37, some 38, some 12] [Eqs (.agg #[.bool nx, .slice (some ⟨gx, 5, none⟩) xs.length (xs.length + 5)]), Eqs (.int .i64 (Int.sign zx)), Eqs (.int .i64 (Int.sign zx))] [] [] (by kernel_rfl) hn rfl (by kernel_rfl) (by kernel_rfl) (by kernel_rfl) (by kernel_rfl) (by kernel_rfl) (by kernel_rfl) ⟨Eqs.mono4 _, Eqs.mono4 _, Eqs.mono4 _, trivial⟩ ok_nil (IsOld.all (bx := []) trivial) (DisOld.all (bx := []) trivial) ?_ ?_
                      · exact ⟨.norm 37 rfl rfl rfl (fun a_ w_ hn_ hBt hr hR hD hO hS => op_loadv W2ok ((hR 6 rfl).trans f6) (b6.keep hBt trivial)),
                          .norm 38 rfl rfl rfl (fun a_ w_ hn_ hBt hr hR hD hO hS => op_sign (isw_eq (show a_.eval (.tmp 37) = .agg #[.bool nx, .slice (some ⟨gx, 5, none⟩) xs.length (xs.length + 5)] from hD 0 rfl) (ALx.rl hr) Lx) (by omega)),
                          .norm 12 rfl rfl rfl (fun a_ w_ hn_ hBt hr hR hD hO hS => op_assign (show a_.eval (.tmp 38) = .int .i64 (Int.sign zx) from hD 1 rfl)),
                          trivial⟩
                      · intro a15 w15 gs15 hn15 hd15 hBt hr hR hP hX hU
                        replace hn := hn15; replace hd := hd15.trans hd
                        replace b3 := b3.keep hBt trivial
                        replace b6 := b6.keep hBt trivial
                        replace b11 := b11.keep hBt trivial
                        replace f0 := (hR 0 rfl).trans f0
                        replace f3 := (hR 3 rfl).trans f3
                        replace f4 := (hR 4 rfl).trans f4
                        replace f5 := (hR 5 rfl).trans f5
                        replace f6 := (hR 6 rfl).trans f6
                        replace f7 := (hR 7 rfl).trans f7
                        replace f8 := (hR 8 rfl).trans f8
                        replace f9 := (hR 9 rfl).trans f9
                        replace f10 := (hR 10 rfl).trans f10
                        replace f11 := (hR 11 rfl).trans f11
                        have e12 : a15.eval (.tmp 12) = .int .i64 (Int.sign zx) := hP 2 (by decide)
                        have f12 := e12
                        replace Ax := Ax.rl hr
                        replace Tx := Tx.rl hr
                        replace ALx := ALx.rl hr
                        replace F14 := F14.rl hr
                        replace G14 := G14.rl hr
                        replace A14 := A14.rl hr
                        replace HB := HB.trans (hBt.below HB.size (UpOld.all (bx := []) trivial))
                        have hBl_ := hBt.below (Nat.le_refl _) (UpOld.all (bx := []) trivial)
                        replace LSh := LSh.below hBl_
                        clear hBt hr hR hP hX hU
                        refine wp_seq ?_
                        refine region4 [some 39, some 40, some 13] [Eqs (.agg #[.bool nx, .slice (some ⟨gx, 5, none⟩) xs.length (xs.length + 5)]), Eqs (.int .i64 (mL : Int)), Eqs (.int .i64 (mL : Int))] [] [] (by kernel_rfl) hn rfl (by kernel_rfl) (by kernel_rfl) (by kernel_rfl) (by kernel_rfl) (by kernel_rfl) (by kernel_rfl) ⟨Eqs.mono4 _, Eqs.mono4 _, Eqs.mono4 _, trivial⟩ ok_nil (IsOld.all (bx := []) trivial) (DisOld.all (bx := []) trivial) ?_ ?_
                        · exact ⟨.norm 39 rfl rfl rfl (fun a_ w_ hn_ hBt hr hR hD hO hS => op_loadv W2ok ((hR 6 rfl).trans f6) (b6.keep hBt trivial)),
                            .norm 40 rfl rfl rfl (fun a_ w_ hn_ hBt hr hR hD hO hS => op_wlimbs (isw_eq (show a_.eval (.tmp 39) = .agg #[.bool nx, .slice (some ⟨gx, 5, none⟩) xs.length (xs.length + 5)] from hD 0 rfl) (ALx.rl hr) Lx) (by omega) hmL),
                            .norm 13 rfl rfl rfl (fun a_ w_ hn_ hBt hr hR hD hO hS => op_assign (show a_.eval (.tmp 40) = .int .i64 (mL : Int) from hD 1 rfl)),
                            trivial⟩
                        · intro a16 w16 gs16 hn16 hd16 hBt hr hR hP hX hU
                          replace hn := hn16; replace hd := hd16.trans hd
                          replace b3 := b3.keep hBt trivial
                          replace b11 := b11.keep hBt trivial
                          replace f0 := (hR 0 rfl).trans f0
                          replace f3 := (hR 3 rfl).trans f3
                          replace f4 := (hR 4 rfl).trans f4
                          replace f5 := (hR 5 rfl).trans f5
                          replace f7 := (hR 7 rfl).trans f7
                          replace f8 := (hR 8 rfl).trans f8
                          replace f9 := (hR 9 rfl).trans f9
                          replace f10 := (hR 10 rfl).trans f10
                          replace f11 := (hR 11 rfl).trans f11
                          replace f12 := (hR 12 rfl).trans f12
                          have e13 : a16.eval (.tmp 13) = .int .i64 (mL : Int) := hP 2 (by decide)
                          have f13 := e13
                          replace Ax := Ax.rl hr
                          replace Tx := Tx.rl hr
                          replace ALx := ALx.rl hr
                          replace F14 := F14.rl hr
                          replace G14 := G14.rl hr
                          replace A14 := A14.rl hr
                          replace HB := HB.trans (hBt.below HB.size (UpOld.all (bx := []) trivial))
                          have hBl_ := hBt.below (Nat.le_refl _) (UpOld.all (bx := []) trivial)
                          replace LSh := LSh.below hBl_
                          clear hBt hr hR hP hX hU
                          refine wp_seq ?_
                          refine wp_of_good (by kernel_rfl) (by kernel_rfl) (fun w_0 hb_0 => ?_)
                          replace b3 := b3.below hb_0
                          replace b11 := b11.below hb_0
                          replace Ax := Ax.below hb_0
                          replace Tx := Tx.below hb_0
                          replace ALx := ALx.below hb_0
                          replace F14 := F14.below hb_0
                          replace G14 := G14.below hb_0
                          replace A14 := A14.below hb_0
                          replace LSh := LSh.below hb_0
                          replace HB := HB.trans (hb_0.mono HB.size); clear hb_0
                          refine good6 0 2 (some 2) [some 41, some 42, some 43, some 44, some 45, some 46, some 47, some 48, some 49, some 50, some 51, some 52, some 53, some 54, some 55, some 56, some 57, some 58, some 59, some 60, some 61, some 62, some 63, some 64, some 65, some 66, some 67, some 68, some 69, some 70, some 71, some 72, some 73, some 74, some 75, some 76, some 77, some 78, some 4] [Eqs (.pointer (some ⟨gs1 0, 1, none⟩)), Eqs (.slice ax mx cx), (fun _ _ => True), (fun _ _ => True), (fun _ _ => True), (fun _ _ => True), (fun _ _ => True), (fun _ _ => True), (fun _ _ => True), (fun _ _ => True), (fun _ _ => True), (fun _ _ => True), (fun _ _ => True), (fun _ _ => True), (fun _ _ => True), (fun _ _ => True), (fun _ _ => True), (fun _ _ => True), (fun _ _ => True), (fun _ _ => True), (fun _ _ => True), (fun _ _ => True), (fun _ _ => True), (fun _ _ => True), (fun _ _ => True), (fun _ _ => True), (fun _ _ => True), (fun _ _ => True), (fun _ _ => True), (fun _ _ => True), (fun _ _ => True), (fun _ _ => True), (fun _ _ => True), (fun _ _ => True), (fun _ _ => True), (fun _ _ => True), (fun _ _ => True), (fun _ _ => True), (fun _ _ => True)] [] [] [] [] [] (by kernel_rfl) hn rfl (by kernel_rfl) (by kernel_rfl) (by kernel_rfl) (by kernel_rfl) (by kernel_rfl) (by kernel_rfl) (by kernel_rfl) (by kernel_rfl) (by kernel_rfl) (by decide) ⟨Eqs.mono5 _, Eqs.mono5 _, True.mono5, True.mono5, True.mono5, True.mono5, True.mono5, True.mono5, True.mono5, True.mono5, True.mono5, True.mono5, True.mono5, True.mono5, True.mono5, True.mono5, True.mono5, True.mono5, True.mono5, True.mono5, True.mono5, True.mono5, True.mono5, True.mono5, True.mono5, True.mono5, True.mono5, True.mono5, True.mono5, True.mono5, True.mono5, True.mono5, True.mono5, True.mono5, True.mono5, True.mono5, True.mono5, True.mono5, True.mono5, trivial⟩ trivial xok_nil ok_nil (IsOld.all (bx := []) trivial) (DisOld.all (bx := []) trivial) trivial ?_ ?_ ?_
                          · exact ⟨.inr (.norm 41 rfl rfl (nxt rfl) rfl (fun a_ w_ hn_ hBt hr hR hD hO hS => d6 rfl (op_fa fa_mag ((hR 3 rfl).trans f3)))),
                              .inr (.norm 42 rfl rfl (nxt rfl) rfl (fun a_ w_ hn_ hBt hr hR hD hO hS => d6 rfl (op_ldmag (show a_.eval (.tmp 41) = .pointer (some ⟨gs1 0, 1, none⟩) from hD 0 rfl) (b3.keep5 hBt trivial trivial)))),
                              .inl rfl,
                              .inl rfl,
                              .inl rfl,
                              .inl rfl,
                              .inl rfl,
                              .inl rfl,
                              .inl rfl,
                              .inl rfl,
                              .inl rfl,
                              .inl rfl,
                              .inl rfl,
                              .inl rfl,
                              .inl rfl,
                              .inl rfl,
                              .inl rfl,
                              .inl rfl,
                              .inl rfl,
                              .inl rfl,
                              .inl rfl,
                              .inl rfl,
                              .inl rfl,
                              .inl rfl,
                              .inl rfl,
                              .inl rfl,
                              .inl rfl,
                              .inl rfl,
                              .inl rfl,
                              .inl rfl,
                              .inl rfl,
                              .inl rfl,
                              .inl rfl,
                              .inl rfl,
                              .inl rfl,
                              .inl rfl,
                              .inl rfl,
                              .inl rfl,
                              .inl rfl,
                              trivial⟩
                          rotate_left
                          · exact fun h => by cases h
                          · intro t_ o_ ht_ ho_ a17 w17 gs17 B17 T17 F_
                            obtain rfl := Option.some.inj ht_; obtain rfl := Option.some.inj ho_; clear ht_ ho_
                            obtain ⟨hn17, hd17, hBt, hr, hR, hP, hTs, hLi, hX, hU, hRel, hSl⟩ := F_
                            replace hn := hn17; replace hd := hd17.trans hd
                            have lq17LSh := LSh.lt
                            replace b3 := b3.keep5 hBt trivial trivial
                            replace b11 := b11.keep5 hBt trivial trivial
                            replace f0 := (hR 0 rfl).trans f0
                            replace f3 := (hR 3 rfl).trans f3
                            replace f4 := (hSl 38 4 (by decide) rfl).trans f4
                            replace f5 := (hR 5 rfl).trans f5
                            replace f7 := (hR 7 rfl).trans f7
                            replace f8 := (hR 8 rfl).trans f8
                            replace f9 := (hR 9 rfl).trans f9
                            replace f10 := (hR 10 rfl).trans f10
                            replace f11 := (hR 11 rfl).trans f11
                            replace f12 := (hR 12 rfl).trans f12
                            replace f13 := (hR 13 rfl).trans f13
                            have e42 : a17.eval (.tmp 42) = .slice ax mx cx := hP 1 (by decide)
                            have f42 := e42
                            have hBl_ := hBt.below (Nat.le_refl _) (UpOld.all (bx := []) trivial) (UpX.all (bx := []) trivial)
                            replace Ax := Ax.ru hr
                            replace Tx := Tx.ru hr
                            replace ALx := ALx.ru hr
                            replace F14 := F14.ru hr
                            replace G14 := G14.ru hr
                            replace A14 := A14.ru hr
                            replace LSh := LSh.below hBl_
                            replace HB := HB.trans (hBt.below HB.size (UpOld.all (bx := []) trivial) (UpX.all (bx := []) trivial))
                            clear hBt hr hR hP hTs hLi hX hU hRel hSl
                            refine ⟨trivial, (op_back f5 f42 LSh (Ax0.below HB).sl (by omega) (fun h0 b off e => by have := Ax0.sl.lt h0 b off e; omega)).mono ?_⟩
                            rintro v_ w18 ⟨rfl, hT_⟩
                            replace b3 := b3.touch hT_ (boxw_ne LSh b3).1
                            replace b11 := b11.touch hT_ (boxw_ne LSh b11).1
                            replace F14 := F14.touch hT_ (by omega)
                            replace G14 := F14.wh
                            replace A14 := G14.ag
                            replace HB := HB.trans (hT_.below uwx HB.size); clear hT_ LSh ALx
                            replace Ax := Ax0.below HB; replace Tx := Ax.sl
                            change Good _ _ _ _ _ (Act.put a17 (some 43) (.bool true)) _
                            have q_ : 43 < a17.tmps.size := by rw [hn]; decide
                            generalize hA_ : Act.put a17 (some 43) (.bool true) = a19
                            replace hn : a19.tmps.size = 79 := by rw [← hA_, put_tmps]; simp [hn]
                            replace hd : a19.defers = [] := by rw [← hA_]; exact hd
                            replace f0 : a19.eval (.tmp 0) = .int .i64 v := by rw [← hA_]; exact (eval_put_ne (by decide)).trans f0
                            replace f3 : a19.eval (.tmp 3) = .pointer (some ⟨gs1 0, 0, none⟩) := by rw [← hA_]; exact (eval_put_ne (by decide)).trans f3
                            replace f4 : a19.eval (.tmp 4) = (.bool false) := by rw [← hA_]; exact (eval_put_ne (by decide)).trans f4
                            replace f5 : a19.eval (.tmp 5) = .pointer (some ⟨gLh, 0, none⟩) := by rw [← hA_]; exact (eval_put_ne (by decide)).trans f5
                            replace f7 : a19.eval (.tmp 7) = .int .i64 (intI zx) := by rw [← hA_]; exact (eval_put_ne (by decide)).trans f7
                            replace f8 : a19.eval (.tmp 8) = .bool (inI zx) := by rw [← hA_]; exact (eval_put_ne (by decide)).trans f8
                            replace f9 : a19.eval (.tmp 9) = .int .i64 (intI zx) := by rw [← hA_]; exact (eval_put_ne (by decide)).trans f9
                            replace f10 : a19.eval (.tmp 10) = .bool (inI zx) := by rw [← hA_]; exact (eval_put_ne (by decide)).trans f10
                            replace f11 : a19.eval (.tmp 11) = .pointer (some ⟨gs13 0, 0, none⟩) := by rw [← hA_]; exact (eval_put_ne (by decide)).trans f11
                            replace f12 : a19.eval (.tmp 12) = .int .i64 (Int.sign zx) := by rw [← hA_]; exact (eval_put_ne (by decide)).trans f12
                            replace f13 : a19.eval (.tmp 13) = .int .i64 (mL : Int) := by rw [← hA_]; exact (eval_put_ne (by decide)).trans f13
                            replace f42 : a19.eval (.tmp 42) = .slice ax mx cx := by rw [← hA_]; exact (eval_put_ne (by decide)).trans f42
                            have f43 : a19.eval (.tmp 43) = .bool true := by rw [← hA_]; exact eval_put_same q_
                            clear q_
                            clear hA_
                            refine good6 3 39 none [some 41, some 42, some 43, some 44, some 45, some 46, some 47, some 48, some 49, some 50, some 51, some 52, some 53, some 54, some 55, some 56, some 57, some 58, some 59, some 60, some 61, some 62, some 63, some 64, some 65, some 66, some 67, some 68, some 69, some 70, some 71, some 72, some 73, some 74, some 75, some 76, some 77, some 78, some 4] [(fun _ _ => True), Eqs (.slice ax mx cx), Eqs (.bool true), Eqs (.bool true), Eqs (.int .i64 (intI zx)), Eqs (.int .i64 (intI zx)), Eqs (.bool true), Eqs (.bool true), Eqs (.bool true), Eqs (.bool (inI zx)), Eqs (.bool (inI zx)), Eqs (.bool true), Eqs (.bool true), Eqs (.bool true), Eqs (.int .i64 (Int.sign zx)), Eqs (.agg #[.bool nx, .slice ax mx cx]), Eqs (.int .i64 (Int.sign zx)), Eqs (.bool true), Eqs (.bool true), Eqs (.bool true), Eqs (.int .i64 (mL : Int)), Eqs (.agg #[.bool nx, .slice ax mx cx]), Eqs (.int .i64 (mL : Int)), Eqs (.bool true), Eqs (.bool true), Eqs (.bool true), Eqs (.agg #[.bool n_14, .slice a_14 r_14.length c_14]), Eqs (.agg #[.bool nx, .slice ax mx cx]), OutW (zx) (3 * (1500)), Eqs (.bool true), Eqs (.bool true), Eqs (.bool true), Eqs (.int .i64 v), OutW (v) (2), Eqs (.int .i64 v), OutW (v) (2), Eqs (.bool true), Eqs (.bool true), Eqs (.bool true)] [] [] [] [] [] (by kernel_rfl) hn rfl (by kernel_rfl) (by kernel_rfl) (by kernel_rfl) (by kernel_rfl) (by kernel_rfl) (by kernel_rfl) (by kernel_rfl) (by kernel_rfl) (by kernel_rfl) (by decide) ⟨True.mono5, Eqs.mono5 _, Eqs.mono5 _, Eqs.mono5 _, Eqs.mono5 _, Eqs.mono5 _, Eqs.mono5 _, Eqs.mono5 _, Eqs.mono5 _, Eqs.mono5 _, Eqs.mono5 _, Eqs.mono5 _, Eqs.mono5 _, Eqs.mono5 _, Eqs.mono5 _, Eqs.mono5 _, Eqs.mono5 _, Eqs.mono5 _, Eqs.mono5 _, Eqs.mono5 _, Eqs.mono5 _, Eqs.mono5 _, Eqs.mono5 _, Eqs.mono5 _, Eqs.mono5 _, Eqs.mono5 _, Eqs.mono5 _, Eqs.mono5 _, OutW.mono5 _ _, Eqs.mono5 _, Eqs.mono5 _, Eqs.mono5 _, Eqs.mono5 _, OutW.mono5 _ _, Eqs.mono5 _, OutW.mono5 _ _, Eqs.mono5 _, Eqs.mono5 _, Eqs.mono5 _, trivial⟩ trivial xok_nil ok_nil (IsOld.all (bx := []) trivial) (DisOld.all (bx := []) trivial) ⟨⟨⟨trivial, trivial⟩, f42⟩, f43⟩ ?_ ?_ ?_
                            · exact ⟨.inl rfl,
                                .inl rfl,
                                .inl rfl,
                                .inr (.norm 44 rfl rfl (nxt rfl) rfl (fun a_ w_ hn_ hBt hr hR hD hO hS => d6 rfl (op_mv (show a_.eval (.tmp 43) = .bool true from hD 2 rfl)))),
                                .inr (.norm 45 rfl rfl (nxt rfl) rfl (fun a_ w_ hn_ hBt hr hR hD hO hS => ⟨⟨_, rfl⟩, fun _ => d6 rfl (op_mv ((hR 7 rfl).trans f7)), fun hne => absurd (hD 3 rfl) hne⟩)),
                                .inr (.norm 46 rfl rfl (nxt rfl) rfl (fun a_ w_ hn_ hBt hr hR hD hO hS => ⟨⟨_, rfl⟩, fun _ => d6 rfl (op_mv ((hR 9 rfl).trans f9)), fun hne => absurd (hD 3 rfl) hne⟩)),
                                .inr (.norm 47 rfl rfl (nxt rfl) rfl (fun a_ w_ hn_ hBt hr hR hD hO hS => ⟨⟨_, rfl⟩, fun _ => d6 rfl (op_eql (show a_.eval (.tmp 45) = .int .i64 (intI zx) from hD 4 rfl) (show a_.eval (.tmp 46) = .int .i64 (intI zx) from hD 5 rfl) rfl), fun hne => absurd (hD 3 rfl) hne⟩)),
                                .inr (.norm 48 rfl rfl (nxt rfl) rfl (fun a_ w_ hn_ hBt hr hR hD hO hS => d6 rfl (op_pickb (show a_.eval (.tmp 44) = .bool true from hD 3 rfl) (show a_.eval (.tmp 47) = .bool true from hD 6 rfl)))),
                                .inr (.norm 49 rfl rfl (nxt rfl) rfl (fun a_ w_ hn_ hBt hr hR hD hO hS => d6 rfl (op_mv (show a_.eval (.tmp 48) = .bool true from hD 7 rfl)))),
                                .inr (.norm 50 rfl rfl (nxt rfl) rfl (fun a_ w_ hn_ hBt hr hR hD hO hS => ⟨⟨_, rfl⟩, fun _ => d6 rfl (op_mv ((hR 8 rfl).trans f8)), fun hne => absurd (hD 8 rfl) hne⟩)),
                                .inr (.norm 51 rfl rfl (nxt rfl) rfl (fun a_ w_ hn_ hBt hr hR hD hO hS => ⟨⟨_, rfl⟩, fun _ => d6 rfl (op_mv ((hR 10 rfl).trans f10)), fun hne => absurd (hD 8 rfl) hne⟩)),
                                .inr (.norm 52 rfl rfl (nxt rfl) rfl (fun a_ w_ hn_ hBt hr hR hD hO hS => ⟨⟨_, rfl⟩, fun _ => d6 rfl (op_eqlbs (show a_.eval (.tmp 50) = .bool (inI zx) from hD 9 rfl) (show a_.eval (.tmp 51) = .bool (inI zx) from hD 10 rfl)), fun hne => absurd (hD 8 rfl) hne⟩)),
                                .inr (.norm 53 rfl rfl (nxt rfl) rfl (fun a_ w_ hn_ hBt hr hR hD hO hS => d6 rfl (op_pickb (show a_.eval (.tmp 49) = .bool true from hD 8 rfl) (show a_.eval (.tmp 52) = .bool true from hD 11 rfl)))),
                                .inr (.norm 54 rfl rfl (nxt rfl) rfl (fun a_ w_ hn_ hBt hr hR hD hO hS => d6 rfl (op_mv (show a_.eval (.tmp 53) = .bool true from hD 12 rfl)))),
                                .inr (.norm 55 rfl rfl (nxt rfl) rfl (fun a_ w_ hn_ hBt hr hR hD hO hS => ⟨⟨_, rfl⟩, fun _ => d6 rfl (op_mv ((hR 12 rfl).trans f12)), fun hne => absurd (hD 13 rfl) hne⟩)),
                                .inr (.norm 56 rfl rfl (nxt rfl) rfl (fun a_ w_ hn_ hBt hr hR hD hO hS => ⟨⟨_, rfl⟩, fun _ => d6 rfl (op_loadv W2ok ((hR 3 rfl).trans f3) (b3.keep5 hBt trivial trivial)), fun hne => absurd (hD 13 rfl) hne⟩)),
                                .inr (.norm 57 rfl rfl (nxt rfl) rfl (fun a_ w_ hn_ hBt hr hR hD hO hS => ⟨⟨_, rfl⟩, fun _ => d6 rfl (op_r2sign (isw_eq (show a_.eval (.tmp 56) = .agg #[.bool nx, .slice ax mx cx] from hD 15 rfl) (Ax.ru hr) Lx) (by omega)), fun hne => absurd (hD 13 rfl) hne⟩)),
                                .inr (.norm 58 rfl rfl (nxt rfl) rfl (fun a_ w_ hn_ hBt hr hR hD hO hS => ⟨⟨_, rfl⟩, fun _ => d6 rfl (op_eql (show a_.eval (.tmp 55) = .int .i64 (Int.sign zx) from hD 14 rfl) (show a_.eval (.tmp 57) = .int .i64 (Int.sign zx) from hD 16 rfl) rfl), fun hne => absurd (hD 13 rfl) hne⟩)),
                                .inr (.norm 59 rfl rfl (nxt rfl) rfl (fun a_ w_ hn_ hBt hr hR hD hO hS => d6 rfl (op_pickb (show a_.eval (.tmp 54) = .bool true from hD 13 rfl) (show a_.eval (.tmp 58) = .bool true from hD 17 rfl)))),
                                .inr (.norm 60 rfl rfl (nxt rfl) rfl (fun a_ w_ hn_ hBt hr hR hD hO hS => d6 rfl (op_mv (show a_.eval (.tmp 59) = .bool true from hD 18 rfl)))),
                                .inr (.norm 61 rfl rfl (nxt rfl) rfl (fun a_ w_ hn_ hBt hr hR hD hO hS => ⟨⟨_, rfl⟩, fun _ => d6 rfl (op_mv ((hR 13 rfl).trans f13)), fun hne => absurd (hD 19 rfl) hne⟩)),
                                .inr (.norm 62 rfl rfl (nxt rfl) rfl (fun a_ w_ hn_ hBt hr hR hD hO hS => ⟨⟨_, rfl⟩, fun _ => d6 rfl (op_loadv W2ok ((hR 3 rfl).trans f3) (b3.keep5 hBt trivial trivial)), fun hne => absurd (hD 19 rfl) hne⟩)),
                                .inr (.norm 63 rfl rfl (nxt rfl) rfl (fun a_ w_ hn_ hBt hr hR hD hO hS => ⟨⟨_, rfl⟩, fun _ => d6 rfl (op_r2limbs (isw_eq (show a_.eval (.tmp 62) = .agg #[.bool nx, .slice ax mx cx] from hD 21 rfl) (Ax.ru hr) Lx) (by omega) mL hmL), fun hne => absurd (hD 19 rfl) hne⟩)),
                                .inr (.norm 64 rfl rfl (nxt rfl) rfl (fun a_ w_ hn_ hBt hr hR hD hO hS => ⟨⟨_, rfl⟩, fun _ => d6 rfl (op_eql (show a_.eval (.tmp 61) = .int .i64 (mL : Int) from hD 20 rfl) (show a_.eval (.tmp 63) = .int .i64 (mL : Int) from hD 22 rfl) rfl), fun hne => absurd (hD 19 rfl) hne⟩)),
                                .inr (.norm 65 rfl rfl (nxt rfl) rfl (fun a_ w_ hn_ hBt hr hR hD hO hS => d6 rfl (op_pickb (show a_.eval (.tmp 60) = .bool true from hD 19 rfl) (show a_.eval (.tmp 64) = .bool true from hD 23 rfl)))),
                                .inr (.norm 66 rfl rfl (nxt rfl) rfl (fun a_ w_ hn_ hBt hr hR hD hO hS => d6 rfl (op_mv (show a_.eval (.tmp 65) = .bool true from hD 24 rfl)))),
                                .inr (.norm 67 rfl rfl (nxt rfl) rfl (fun a_ w_ hn_ hBt hr hR hD hO hS => ⟨⟨_, rfl⟩, fun _ => d6 rfl (op_loadv W2ok ((hR 11 rfl).trans f11) (b11.keep5 hBt trivial trivial)), fun hne => absurd (hD 25 rfl) hne⟩)),
                                .inr (.norm 68 rfl rfl (nxt rfl) rfl (fun a_ w_ hn_ hBt hr hR hD hO hS => ⟨⟨_, rfl⟩, fun _ => d6 rfl (op_loadv W2ok ((hR 3 rfl).trans f3) (b3.keep5 hBt trivial trivial)), fun hne => absurd (hD 25 rfl) hne⟩)),
                                .inr (.norm 69 rfl rfl (nxt rfl) rfl (fun a_ w_ hn_ hBt hr hR hD hO hS => ⟨⟨_, rfl⟩, fun _ => d6 rfl (op_r2trim (isw_eq (show a_.eval (.tmp 68) = .agg #[.bool nx, .slice ax mx cx] from hD 27 rfl) (Ax.ru hr) Lx) (by omega)), fun hne => absurd (hD 25 rfl) hne⟩)),
                                .inr (.norm 70 rfl rfl (nxt rfl) rfl (fun a_ w_ hn_ hBt hr hR hD hO hS => ⟨⟨_, rfl⟩, fun _ => d6 rfl (op_same (outw_eq (show a_.eval (.tmp 67) = .agg #[.bool n_14, .slice a_14 r_14.length c_14] from hD 26 rfl) (G14.ru hr) l14) (show OutW (zx) (3 * (1500)) (a_.eval (.tmp 69)) w_ from hD 28 rfl) rfl), fun hne => absurd (hD 25 rfl) hne⟩)),
                                .inr (.norm 71 rfl rfl (nxt rfl) rfl (fun a_ w_ hn_ hBt hr hR hD hO hS => d6 rfl (op_pickb (show a_.eval (.tmp 66) = .bool true from hD 25 rfl) (show a_.eval (.tmp 70) = .bool true from hD 29 rfl)))),
                                .inr (.norm 72 rfl rfl (nxt rfl) rfl (fun a_ w_ hn_ hBt hr hR hD hO hS => d6 rfl (op_mv (show a_.eval (.tmp 71) = .bool true from hD 30 rfl)))),
                                .inr (.norm 73 rfl rfl (nxt rfl) rfl (fun a_ w_ hn_ hBt hr hR hD hO hS => ⟨⟨_, rfl⟩, fun _ => d6 rfl (op_mv ((hR 0 rfl).trans f0)), fun hne => absurd (hD 31 rfl) hne⟩)),
                                .inr (.norm 74 rfl rfl (nxt rfl) rfl (fun a_ w_ hn_ hBt hr hR hD hO hS => ⟨⟨_, rfl⟩, fun _ => d6 rfl (op_oft (show a_.eval (.tmp 73) = .int .i64 v from hD 32 rfl) hv1 hv2), fun hne => absurd (hD 31 rfl) hne⟩)),
                                .inr (.norm 75 rfl rfl (nxt rfl) rfl (fun a_ w_ hn_ hBt hr hR hD hO hS => ⟨⟨_, rfl⟩, fun _ => d6 rfl (op_mv ((hR 0 rfl).trans f0)), fun hne => absurd (hD 31 rfl) hne⟩)),
                                .inr (.norm 76 rfl rfl (nxt rfl) rfl (fun a_ w_ hn_ hBt hr hR hD hO hS => ⟨⟨_, rfl⟩, fun _ => d6 rfl (op_lsmallt (show a_.eval (.tmp 75) = .int .i64 v from hD 34 rfl) hv1 hv2), fun hne => absurd (hD 31 rfl) hne⟩)),
                                .inr (.norm 77 rfl rfl (nxt rfl) rfl (fun a_ w_ hn_ hBt hr hR hD hO hS => ⟨⟨_, rfl⟩, fun _ => d6 rfl (op_same (show OutW (v) (2) (a_.eval (.tmp 74)) w_ from hD 33 rfl) (show OutW (v) (2) (a_.eval (.tmp 76)) w_ from hD 35 rfl) rfl), fun hne => absurd (hD 31 rfl) hne⟩)),
                                .inr (.norm 78 rfl rfl (nxt rfl) rfl (fun a_ w_ hn_ hBt hr hR hD hO hS => d6 rfl (op_pickb (show a_.eval (.tmp 72) = .bool true from hD 31 rfl) (show a_.eval (.tmp 77) = .bool true from hD 36 rfl)))),
                                .inr (.norm 4 rfl rfl (nxt rfl) rfl (fun a_ w_ hn_ hBt hr hR hD hO hS => d6 rfl (op_assign (show a_.eval (.tmp 78) = .bool true from hD 37 rfl)))),
                                trivial⟩
                            · exact fun _ _ h => by cases h
                            · intro _ a20 w20 gs20 B20 T20 F_
                              obtain ⟨hn20, hd20, hBt, hr, hR, hP, hTs, hLi, hX, hU, hRel, hSl⟩ := F_
                              replace hn := hn20; replace hd := hd20.trans hd
                              have e4 : a20.eval (.tmp 4) = .bool true := hP 38 (by decide)
                              have f4 := e4
                              replace Ax := Ax.ru hr
                              replace Tx := Tx.ru hr
                              replace F14 := F14.ru hr
                              replace G14 := G14.ru hr
                              replace A14 := A14.ru hr
                              replace HB := HB.trans (hBt.below HB.size (UpOld.all (bx := []) trivial) (UpX.all (bx := []) trivial))
                              clear hBt hr hR hP hTs hLi hX hU hRel hSl
                              refine wp_ret ?_
                              repeat (first | refine then_ret ?_ | refine scope_ret ?_ | refine block_ret ?_)
                              exact bodyPost_ret (v := .bool true) (res_t rfl f4) hd ⟨rfl, HB⟩

end Lm
end Go.Proofs.Ytjhhjefobbhdlaa
