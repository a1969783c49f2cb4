/-
  How many limbs the document's own numbers have. The document's own whole numbers, each answer in memory of its own. The document's own fractions: read, told, asked. Lowest terms, in memory of their own. The program's fractions, each answer in memory of its own. The document's own fractions: whole ones, and the whole number below. Lists in memory of their own, as intervals of blocks: what is told of them without any reckoning in a great context. RatioReads: what its walk uses beside the contracts.
-/
import Derived.Deep.LoopGhost
import Derived.Test.YtpofkigboedliaaRRdLawZ3
namespace Go.Proofs.Ytpofkigboedliaa
namespace Lm
open Go Go.RowKit
section
variable {dst : Option Tmp} {ty : TypeId} {pos : String} {after : Array Edge} {guard : Option (Nat × Bool)} {a : Act} {w : World} {ats : Array TypeId} {i k g : Nat} {x z u v : Int} {L : Nat}
theorem op_nlimbsa (h : OutN z L (a.eval (.tmp i)) w) (hL : L ≤ 1000000) :
    Does Try.prog { dst, op := .call { callee := .value (.func 73), args := #[.tmp i], argTypes := ats }, type := ty, pos, after, guard } a.eval w fun v w' => Below w.heap.size w w' ∧ OutL (z.natAbs : Int) L v w' := by
  obtain ⟨ng, ao, cap, rs, e1, W, l⟩ := h
  have hb := W.bound l
  refine does_call has_nlimbs _ (by simp only [List.map_toArray, List.map_cons, List.map_nil, e1]) ((Dm.limbs_any w ng ao cap rs _ W.1 L hb hL (by omega)).mono ?_)
  rintro e w' ⟨v, rfl, I, hb'⟩
  obtain ⟨ao, cap, rs, rfl, G⟩ := I.got
  exact ⟨_, rfl, hb', _, _, _, rfl, G, canon_len G.canon (by rw [G.val]; exact hb)⟩
theorem fa_ndig (w : World) : (Instr.fieldAt 63 (.pointer (some ⟨g, 0, none⟩)) 1).run Try.prog w = .ok (.pointer (some ⟨g, 1, none⟩)) w := by go_simp
theorem op_ldndig {ng : Bool} {ao : Option Addr} {n c : Nat} (hp : a.eval (.tmp k) = .pointer (some ⟨g, 1, none⟩)) (hb : BoxV N2 w g (.agg #[.bool ng, .slice ao n c])) :
    Does Try.prog { dst, op := .load 61 (.tmp k), type := ty, pos, after, guard } a.eval w fun v' w' => Below w.heap.size w w' ∧ Eqs (.slice ao n c) v' w' := by
  obtain ⟨b1, b2, b3, b4⟩ := (n2_row hb).facts
  refine does_load (v := .slice ao n c) ?_ ⟨Below.refl _ _, rfl⟩
  rw [hp]
  go_simp
theorem op_leni {ao : Option Addr} {n c : Nat} (h : a.eval (.tmp i) = .slice ao n c) : Does Try.prog { dst, op := .call { callee := .builtin .len, args := #[.tmp i], argTypes := #[61] }, type := ty, pos, after, guard } a.eval w fun v' w' => Below w.heap.size w w' ∧ Eqs (.int .i64 n) v' w' := by
  have e : (execOp a.eval { dst, op := .call { callee := .builtin .len, args := #[.tmp i], argTypes := #[61] }, type := ty, pos, after, guard }).run Try.prog w = .ok (.value (.int .i64 n)) w := by
    have h' : a.tmps[i]?.getD undef = .slice ao n c := by simpa [Act.eval] using h
    simp [go_sem, h']
  refine ⟨?_⟩
  unfold Turns
  rw [e]
  exact ⟨Below.refl _ _, rfl⟩
theorem op_lenL {m : Nat} (h : OutL x L (a.eval (.tmp i)) w) (hm : IsLen x m) : Does Try.prog { dst, op := .call { callee := .builtin .len, args := #[.tmp i], argTypes := #[26] }, type := ty, pos, after, guard } a.eval w fun v' w' => Below w.heap.size w w' ∧ Eqs (.int .i64 m) v' w' := by
  obtain ⟨ao, cap, rs, e, G, l⟩ := h
  have hl : rs.length = m := isLen_one ⟨rs, G.canon, G.val, rfl⟩ hm
  exact (op_len e).mono (fun v' w' ⟨hb, e⟩ => ⟨hb, by rw [Eqs, show v' = _ from e, hl]⟩)
theorem op_lssk (h1 : a.eval (.tmp i) = .int .i64 u) :
    Does Try.prog { dst, op := .binOp .lss 3 (.tmp i) (.const (.int .i64 v)) 3, type := ty, pos, after, guard } a.eval w fun v' w' => Below w.heap.size w w' ∧ Eqs (.bool (decide (u < v))) v' w' := by
  refine does_bin (v := .bool (decide (u < v))) ?_ ?_ ⟨Below.refl _ _, rfl⟩
  · rw [h1]; simp [go_sem, Act.eval]
  · rw [h1]; simp [go_sem, Act.eval]
end
set_option maxRecDepth 20000 in
set_option maxHeartbeats 2000000 in
theorem nlong_z (w : World) (Bx : Nat) (nx : Bool) (ax : Option Addr) (cx : Nat) (xs : List Int) (zx : Int) (Gx : Dm.Wh w nx ax cx xs zx) (Lx : xs.length ≤ Bx) (hL : Bx ≤ 1000000) (m : Nat) (hm : IsLen (zx.natAbs : Int) m) :
    Calls Try.prog 80 #[.agg #[.bool nx, .slice ax xs.length cx]] w fun e w' => ∃ v, e = .returned v ∧ (Eqs (.int .i64 (m : Int))) v w' ∧ Below w.heap.size w w' := by
  go_enter Try.func80, Try.ntmps80
  generalize hA : (Act.mk _ _) = aa
  have hn : aa.tmps.size = 13 := by rw [← hA]; rfl
  have hd : aa.defers = [] := by rw [← hA]
  have f0 : aa.eval (.tmp 0) = .agg #[.bool nx, .slice ax xs.length cx] := by rw [← hA]; rfl
  clear hA
  have HB : Below w.heap.size w w := Below.refl _ _
  refine wp_seq ?_
  refine region4 [some 1, some 2] [(fun _ _ => True), Eqs ((.int .i64 0))] [⟨N2, some 0, 0, 1, .agg #[.bool nx, .slice ax xs.length cx], none, []⟩] [] (by kernel_rfl) hn rfl (by kernel_rfl) (by kernel_rfl) (by kernel_rfl) (by kernel_rfl) (by kernel_rfl) (by kernel_rfl) ⟨True.mono4, Eqs.mono4 _, trivial⟩ (ok_cons N2ok ok_nil) (IsOld.all (bx := [⟨N2, some 0, 0, 1, .agg #[.bool nx, .slice ax xs.length cx], none, []⟩]) ⟨someNe, trivial⟩) (DisOld.all (bx := [⟨N2, some 0, 0, 1, .agg #[.bool nx, .slice ax xs.length cx], none, []⟩]) ⟨someNe, trivial⟩) ?_ ?_
  · exact ⟨.alloc 0 _ rfl rfl (.inr ⟨_, rfl, n2_cs, fun a_ hR => (hR 0 rfl).trans f0⟩) rfl rfl rfl rfl rfl,
      .norm 2 rfl rfl rfl (fun a_ w_ hn_ hBt hr hR hD hO hS => op_assign rfl),
      trivial⟩
  · intro a1 w1 gs1 hn1 hd1 hBt hr hR hP hX hU
    replace hn := hn1; replace hd := hd1.trans hd
    have b1 : BoxV N2 w1 (gs1 0) (.agg #[.bool nx, .slice ax xs.length cx]) := (hX 0 _ rfl).2.2.2
    have f1 := (hX 0 _ rfl).1
    have u1 : w.heap.size ≤ gs1 0 := Nat.le_trans HB.size ((hX 0 _ rfl).2.2.1 (by simp))
    have e2 : a1.eval (.tmp 2) = (.int .i64 0) := hP 1 (by decide)
    have f2 := e2
    replace Gx := Gx.rl hr
    replace HB := HB.trans (hBt.below HB.size (UpOld.all (bx := [⟨N2, some 0, 0, 1, .agg #[.bool nx, .slice ax xs.length cx], none, []⟩]) ⟨someNe, trivial⟩))
    clear hBt hr hR hP hX hU
    refine wp_seq ?_
    refine wp_seq ?_
    refine region4 [some 3, some 4, some 5, some 6] [Eqs (.pointer (some ⟨gs1 0, 1, none⟩)), Eqs (.slice ax xs.length cx), Eqs (.int .i64 (xs.length : Int)), Eqs (.bool (decide ((xs.length : Int) < 3)))] [] [] (by kernel_rfl) hn rfl (by kernel_rfl) (by kernel_rfl) (by kernel_rfl) (by kernel_rfl) (by kernel_rfl) (by kernel_rfl) ⟨Eqs.mono4 _, Eqs.mono4 _, Eqs.mono4 _, Eqs.mono4 _, trivial⟩ ok_nil (IsOld.all (bx := []) trivial) (DisOld.all (bx := []) trivial) ?_ ?_
    · exact ⟨.norm 3 rfl rfl rfl (fun a_ w_ hn_ hBt hr hR hD hO hS => op_faN fa_ndig ((hR 1 rfl).trans f1)),
        .norm 4 rfl rfl rfl (fun a_ w_ hn_ hBt hr hR hD hO hS => op_ldndig (show a_.eval (.tmp 3) = .pointer (some ⟨gs1 0, 1, none⟩) from hD 0 rfl) (b1.keep hBt trivial)),
        .norm 5 rfl rfl rfl (fun a_ w_ hn_ hBt hr hR hD hO hS => op_leni (show a_.eval (.tmp 4) = .slice ax xs.length cx from hD 1 rfl)),
        .norm 6 rfl rfl rfl (fun a_ w_ hn_ hBt hr hR hD hO hS => op_lssk (show a_.eval (.tmp 5) = .int .i64 (xs.length : Int) from hD 2 rfl)),
        trivial⟩
    · intro a2 w2 gs2 hn2 hd2 hBt hr hR hP hX hU
      replace hn := hn2; replace hd := hd2.trans hd
      replace b1 := b1.keep hBt trivial
      replace f1 := (hR 1 rfl).trans f1
      replace f2 := (hR 2 rfl).trans f2
      have e6 : a2.eval (.tmp 6) = .bool (decide ((xs.length : Int) < 3)) := hP 3 (by decide)
      have f6 := e6
      replace Gx := Gx.rl hr
      replace HB := HB.trans (hBt.below HB.size (UpOld.all (bx := []) trivial))
      clear hBt hr hR hP hX hU
      refine wp_cond_split f6 (fun hc6 => ?_) (fun hc6 => ?_)
      · skip
        refine wp_seq ?_
        refine region4 [some 7, some 8, some 9, some 2] [Eqs (.agg #[.bool nx, .slice ax xs.length cx]), OutL (((zx).natAbs : Int)) (Bx), Eqs (.int .i64 (m : Int)), Eqs (.int .i64 (m : Int))] [] [] (by kernel_rfl) hn rfl (by kernel_rfl) (by kernel_rfl) (by kernel_rfl) (by kernel_rfl) (by kernel_rfl) (by kernel_rfl) ⟨Eqs.mono4 _, OutL.mono4 _ _, Eqs.mono4 _, Eqs.mono4 _, trivial⟩ ok_nil (IsOld.all (bx := []) trivial) (DisOld.all (bx := []) trivial) ?_ ?_
        · exact ⟨.norm 7 rfl rfl rfl (fun a_ w_ hn_ hBt hr hR hD hO hS => op_loadv N2ok ((hR 1 rfl).trans f1) (b1.keep hBt trivial)),
            .norm 8 rfl rfl rfl (fun a_ w_ hn_ hBt hr hR hD hO hS => op_nlimbsa (outn_eq (show a_.eval (.tmp 7) = .agg #[.bool nx, .slice ax xs.length cx] from hD 0 rfl) (Gx.rl hr) Lx) (by omega)),
            .norm 9 rfl rfl rfl (fun a_ w_ hn_ hBt hr hR hD hO hS => op_lenL (show OutL (((zx).natAbs : Int)) (Bx) (a_.eval (.tmp 8)) w_ from hD 1 rfl) hm),
            .norm 2 rfl rfl rfl (fun a_ w_ hn_ hBt hr hR hD hO hS => op_assign (show a_.eval (.tmp 9) = .int .i64 (m : Int) from hD 2 rfl)),
            trivial⟩
        · intro a3 w3 gs3 hn3 hd3 hBt hr hR hP hX hU
          replace hn := hn3; replace hd := hd3.trans hd
          replace b1 := b1.keep hBt trivial
          replace f1 := (hR 1 rfl).trans f1
          have e2 : a3.eval (.tmp 2) = .int .i64 (m : Int) := hP 3 (by decide)
          have f2 := e2
          replace Gx := Gx.rl hr
          replace HB := HB.trans (hBt.below HB.size (UpOld.all (bx := []) trivial))
          clear hBt hr hR hP hX hU
          refine wp_ret ?_
          repeat (first | refine then_ret ?_ | refine scope_ret ?_ | refine block_ret ?_)
          exact bodyPost_ret (v := .int .i64 (m : Int)) (res_t rfl f2) hd ⟨_, rfl, rfl, HB⟩
      · skip
        refine wp_skip ?_
        refine wp_seq ?_
        refine region4 [some 10, some 11, some 12, some 2] [Eqs (.agg #[.bool nx, .slice ax xs.length cx]), OutL (((zx).natAbs : Int)) (Bx), Eqs (.int .i64 (m : Int)), Eqs (.int .i64 (m : Int))] [] [] (by kernel_rfl) hn rfl (by kernel_rfl) (by kernel_rfl) (by kernel_rfl) (by kernel_rfl) (by kernel_rfl) (by kernel_rfl) ⟨Eqs.mono4 _, OutL.mono4 _ _, Eqs.mono4 _, Eqs.mono4 _, trivial⟩ ok_nil (IsOld.all (bx := []) trivial) (DisOld.all (bx := []) trivial) ?_ ?_
        · exact ⟨.norm 10 rfl rfl rfl (fun a_ w_ hn_ hBt hr hR hD hO hS => op_loadv N2ok ((hR 1 rfl).trans f1) (b1.keep hBt trivial)),
            .norm 11 rfl rfl rfl (fun a_ w_ hn_ hBt hr hR hD hO hS => op_nlimbsa (outn_eq (show a_.eval (.tmp 10) = .agg #[.bool nx, .slice ax xs.length cx] from hD 0 rfl) (Gx.rl hr) Lx) (by omega)),
            .norm 12 rfl rfl rfl (fun a_ w_ hn_ hBt hr hR hD hO hS => op_lenL (show OutL (((zx).natAbs : Int)) (Bx) (a_.eval (.tmp 11)) w_ from hD 1 rfl) hm),
            .norm 2 rfl rfl rfl (fun a_ w_ hn_ hBt hr hR hD hO hS => op_assign (show a_.eval (.tmp 12) = .int .i64 (m : Int) from hD 2 rfl)),
            trivial⟩
        · intro a4 w4 gs4 hn4 hd4 hBt hr hR hP hX hU
          replace hn := hn4; replace hd := hd4.trans hd
          have e2 : a4.eval (.tmp 2) = .int .i64 (m : Int) := hP 3 (by decide)
          have f2 := e2
          replace Gx := Gx.rl hr
          replace HB := HB.trans (hBt.below HB.size (UpOld.all (bx := []) trivial))
          clear hBt hr hR hP hX hU
          refine wp_ret ?_
          repeat (first | refine then_ret ?_ | refine scope_ret ?_ | refine block_ret ?_)
          exact bodyPost_ret (v := .int .i64 (m : Int)) (res_t rfl f2) hd ⟨_, rfl, rfl, HB⟩
theorem has_nlong : Has Try.prog 80 := by unfold Has; kernel_rfl
theorem op_nlong {dst : Option Tmp} {ty : TypeId} {pos : String} {after : Array Edge} {guard : Option (Nat × Bool)} {a : Act} {w : World} {ats : Array TypeId} {i : Nat} {Bx : Nat} {zx : Int} (Hx : OutN zx Bx (a.eval (.tmp i)) w) (hL : Bx ≤ 1000000) (m : Nat) (hm : IsLen (zx.natAbs : Int) m) :
    Does Try.prog { dst, op := .call { callee := .value (.func 80), args := #[.tmp i], argTypes := ats }, type := ty, pos, after, guard } a.eval w fun v w' => Below w.heap.size w w' ∧ (Eqs (.int .i64 (m : Int))) v w' := by
  obtain ⟨nx, ax, cx, xs, ex, Gx, Lx⟩ := Hx
  refine does_call has_nlong _ (by simp only [List.map_toArray, List.map_cons, List.map_nil, ex]) ((nlong_z w Bx _ _ _ _ _ Gx Lx hL m hm).mono ?_)
  rintro e w' ⟨v, rfl, h1, hb⟩
  exact ⟨_, rfl, hb, h1⟩
end Lm
end Go.Proofs.Ytpofkigboedliaa

namespace Go.Proofs.Ytpofkigboedliaa
namespace Lm
open Go Go.RowKit
theorem frw_eq {K : Nat} {ng : Bool} {ao : Option Addr} {cap : Nat} {rs : List Int} {z : Int} {L L' B T : Nat} {w : World} (F : Dm.WFr B T w ng ao cap rs z) (hB : K ≤ B) (hT : T ≤ w.heap.size) (hl : rs.length ≤ L) (hL : L ≤ L') : FrW K z L' (.agg #[.bool ng, .slice ao rs.length cap]) w := ⟨_, _, _, _, _, _, rfl, F, hB, hT, Nat.le_trans hl hL⟩
section
variable {dst : Option Tmp} {ty : TypeId} {pos : String} {after : Array Edge} {guard : Option (Nat × Bool)} {a : Act} {w : World} {ats : Array TypeId} {i : Nat} {z : Int} {L K : Nat}
theorem op_ntoldF (h : OutN z L (a.eval (.tmp i)) w) (hL : L ≤ 1000000) (hK : K ≤ w.heap.size) :
    Does Try.prog { dst, op := .call { callee := .value (.func 41), args := #[.tmp i], argTypes := ats }, type := ty, pos, after, guard } a.eval w fun v w' => Below w.heap.size w w' ∧ FrW K z L v w' := by
  obtain ⟨ng, ao, cap, rs, e1, W, l⟩ := h
  refine does_call has_ntold _ (by simp only [List.map_toArray, List.map_cons, List.map_nil, e1]) ((Dm.told_g w _ _ _ _ _ W L (W.bound l) hL (by omega)).mono ?_)
  rintro e w' ⟨bo, dap, ls, rfl, F, l2, hb⟩
  exact ⟨_, rfl, hb, _, _, _, _, _, _, rfl, F, hK, Nat.le_refl _, l2⟩
end
end Lm
end Go.Proofs.Ytpofkigboedliaa

namespace Go.Proofs.Ytpofkigboedliaa
namespace Lm
open Go Go.RowKit
theorem outn_zero {v : Value} (w : World) (h : v = .agg #[.bool false, .slice none 0 0]) : OutN 0 0 v w := ⟨false, none, 0, [], h, ⟨⟨⟨none, 0, rfl, Nat.le_refl _, by simp [maxLen], (fun _ h => by cases h), .inl rfl⟩, ⟨(fun _ h => by cases h), rfl⟩, rfl⟩, rfl⟩, Nat.le_refl _⟩
theorem read_zero {p q : Int} (h : q = 0) : 0 = nm (tp p q) (tq q) ∧ 1 = dn (tp p q) (tq q) := by
  subst h
  simp [nm, dn, tp, tq]
theorem read_some {p q : Int} (h : q ≠ 0) : nm p q = nm (tp p q) (tq q) ∧ dn p q = dn (tp p q) (tq q) := by
  simp [tp, tq, h]
section
variable {dst : Option Tmp} {ty : TypeId} {pos : String} {after : Array Edge} {guard : Option (Nat × Bool)} {a : Act} {w : World} {ats : Array TypeId} {i : Nat} {x p q : Int} {L : Nat}
theorem has_nfrom : Has Try.prog 71 := by unfold Has; kernel_rfl
theorem op_nfrom (h : IsL x L (a.eval (.tmp i)) w) (hL : L ≤ 100000) :
    Does Try.prog { dst, op := .call { callee := .value (.func 71), args := #[.tmp i], argTypes := ats }, type := ty, pos, after, guard } a.eval w fun v w' => Below w.heap.size w w' ∧ OutN x (3 * L) v w' := by
  obtain ⟨ao, n, cap, xs, e, hs, hv, hl⟩ := h
  have h0 := (val_bounds hs.parts.2.2.2).1
  refine does_call has_nfrom _ (by simp only [List.map_toArray, List.map_cons, List.map_nil, e]) ((Dm.fromLimbs_any w ao n cap xs hs (by omega)).mono ?_)
  rintro e w' ⟨ao', cap', D, rfl, G, hl', hb⟩
  rw [hv] at G h0
  refine ⟨_, rfl, hb, _, _, _, _, rfl, ⟨?_, (decide_eq_false (by omega)).symm⟩, by omega⟩
  rwa [show ((x.natAbs : Nat) : Int) = x by omega]
theorem op_bN0 : Does Try.prog { dst, op := .build 63 #[], type := ty, pos, after, guard } a.eval w fun v' w' => Below w.heap.size w w' ∧ Eqs (.agg #[.bool false, .slice none 0 0]) v' w' := by
  have e : (execOp a.eval { dst, op := .build 63 #[], type := ty, pos, after, guard }).run Try.prog w = .ok (.value (.agg #[.bool false, .slice none 0 0])) w := by
    simp only [execOp, List.map_toArray, List.map_nil]
    go_simp
  refine ⟨?_⟩
  unfold Turns
  rw [e]
  exact ⟨Below.refl _ _, rfl⟩
theorem op_qf0 (h : OutQ p q L (a.eval (.tmp i)) w) : Does Try.prog { dst, op := .field 77 (.tmp i) 0, type := ty, pos, after, guard } a.eval w fun v' w' => Below w.heap.size w w' ∧ OutN p L v' w' := by
  obtain ⟨ng, ao, c, rs, o, b, d, ss, e1, G, K, l1, l2⟩ := h
  have e : (execOp a.eval { dst, op := .field 77 (.tmp i) 0, type := ty, pos, after, guard }).run Try.prog w = .ok (.value (.agg #[.bool ng, .slice ao rs.length c])) w := by
    simp only [execOp, e1]
    simp [Instr.field, asAgg, part, go_sem]
  refine ⟨?_⟩
  unfold Turns
  rw [e]
  exact ⟨Below.refl _ _, _, _, _, _, rfl, G, l1⟩
end
set_option maxRecDepth 20000 in
set_option maxHeartbeats 2000000 in
theorem qzero_z (w : World)   :
    Calls Try.prog 78 #[] w fun e w' => ∃ v, e = .returned v ∧ (OutQ 0 1 5) v w' ∧ Below w.heap.size w w' := by
  go_enter Try.func78, Try.ntmps78
  generalize hA : (Act.mk _ _) = aa
  have hn : aa.tmps.size = 4 := by rw [← hA]; rfl
  have hd : aa.defers = [] := by rw [← hA]
  clear hA
  have HB : Below w.heap.size w w := Below.refl _ _
  refine wp_seq ?_
  refine region4 [some 0] [(fun _ _ => True)] [⟨Q4, some 0, 0, 0, .agg #[.bool false, .slice none 0 0, .bool false, .slice none 0 0], none, []⟩] [] (by kernel_rfl) hn rfl (by kernel_rfl) (by kernel_rfl) (by kernel_rfl) (by kernel_rfl) (by kernel_rfl) (by kernel_rfl) ⟨True.mono4, trivial⟩ (ok_cons Q4ok ok_nil) (IsOld.all (bx := [⟨Q4, some 0, 0, 0, .agg #[.bool false, .slice none 0 0, .bool false, .slice none 0 0], none, []⟩]) ⟨someNe, trivial⟩) (DisOld.all (bx := [⟨Q4, some 0, 0, 0, .agg #[.bool false, .slice none 0 0, .bool false, .slice none 0 0], none, []⟩]) ⟨someNe, trivial⟩) ?_ ?_
  · exact ⟨.alloc 0 _ rfl rfl (.inl ⟨rfl, rfl⟩) rfl rfl rfl rfl rfl,
      trivial⟩
  · intro a1 w1 gs1 hn1 hd1 hBt hr hR hP hX hU
    replace hn := hn1; replace hd := hd1.trans hd
    have b0 : BoxV Q4 w1 (gs1 0) (.agg #[.bool false, .slice none 0 0, .bool false, .slice none 0 0]) := (hX 0 _ rfl).2.2.2
    have f0 := (hX 0 _ rfl).1
    have u0 : w.heap.size ≤ gs1 0 := Nat.le_trans HB.size ((hX 0 _ rfl).2.2.1 (by simp))
    replace HB := HB.trans (hBt.below HB.size (UpOld.all (bx := [⟨Q4, some 0, 0, 0, .agg #[.bool false, .slice none 0 0, .bool false, .slice none 0 0], none, []⟩]) ⟨someNe, trivial⟩))
    clear hBt hr hR hP hX hU
    refine wp_seq ?_
    refine region4 [some 1, some 2, some 3, none] [Eqs (.agg #[.bool false, .slice none 0 0]), OutN (1) (5), OutQ (0) (1) ((0) + (5)), (fun _ _ => True)] [⟨Q4, none, (gs1 0), 0, .agg #[.bool false, .slice none 0 0, .bool false, .slice none 0 0], some (3, 3, 2), []⟩] [] (by kernel_rfl) hn rfl (by kernel_rfl) (by kernel_rfl) (by kernel_rfl) (by kernel_rfl) (by kernel_rfl) (by kernel_rfl) ⟨Eqs.mono4 _, OutN.mono4 _ _, OutQ.mono4 _ _ _, True.mono4, trivial⟩ (ok_cons Q4ok ok_nil) (IsOld.all (bx := [⟨Q4, none, (gs1 0), 0, .agg #[.bool false, .slice none 0 0, .bool false, .slice none 0 0], some (3, 3, 2), []⟩]) ⟨fun _ => ⟨f0, b0⟩, trivial⟩) (DisOld.all (bx := [⟨Q4, none, (gs1 0), 0, .agg #[.bool false, .slice none 0 0, .bool false, .slice none 0 0], some (3, 3, 2), []⟩]) ⟨fun _ => trivial, trivial⟩) ?_ ?_
    · exact ⟨.norm 1 rfl rfl rfl (fun a_ w_ hn_ hBt hr hR hD hO hS => op_bN0),
        .norm 2 rfl rfl rfl (fun a_ w_ hn_ hBt hr hR hD hO hS => op_nint (by omega) (by omega)),
        .norm 3 rfl rfl rfl (fun a_ w_ hn_ hBt hr hR hD hO hS => op_bQ (L := (0) + (5)) ((outn_zero _ (show a_.eval (.tmp 1) = .agg #[.bool false, .slice none 0 0] from hD 0 rfl)).to rfl (by omega)) ((show OutN (1) (5) (a_.eval (.tmp 2)) w_ from hD 1 rfl).to rfl (by omega))),
        .store 0 _ _ _ rfl rfl rfl rfl rfl rfl rfl (fun ia h => by cases h) rfl rfl rfl OutQ.cs,
        trivial⟩
    · intro a2 w2 gs2 hn2 hd2 hBt hr hR hP hX hU
      replace hn := hn2; replace hd := hd2.trans hd
      obtain ⟨n_3, a_3, c_3, r_3, o_3, b_3, d_3, s_3, e3, G3, K3, l3, k3⟩ : OutQ (0) (1) ((0) + (5)) (a2.eval (.tmp 3)) w2 := hP 2 (by decide)
      have b0 : BoxV Q4 w2 ((gs1 0)) (.agg #[.bool n_3, .slice a_3 r_3.length c_3, .bool o_3, .slice b_3 s_3.length d_3]) := boxv_old ((hX 0 _ rfl).2.1 rfl) (hX 0 _ rfl).2.2.2 e3
      replace f0 : a2.eval (.tmp 0) = _ := (hR 0 rfl).trans f0
      replace HB := HB.trans (hBt.below HB.size (UpOld.all (bx := [⟨Q4, none, (gs1 0), 0, .agg #[.bool false, .slice none 0 0, .bool false, .slice none 0 0], some (3, 3, 2), []⟩]) ⟨fun _ => u0, trivial⟩))
      clear hBt hr hR hP hX hU
      refine wp_ret ?_
      repeat (first | refine then_ret ?_ | refine scope_ret ?_ | refine block_ret ?_)
      exact bodyPost_ret (v := .agg #[.bool n_3, .slice a_3 r_3.length c_3, .bool o_3, .slice b_3 s_3.length d_3]) (res_c rfl f0 (lv_Q4 b0)) hd ⟨_, rfl, OutQ.to (outq_eq rfl G3 K3 l3 k3) rfl rfl (by omega), HB⟩
theorem has_qzero : Has Try.prog 78 := by unfold Has; kernel_rfl
theorem op_qzero {dst : Option Tmp} {ty : TypeId} {pos : String} {after : Array Edge} {guard : Option (Nat × Bool)} {a : Act} {w : World} {ats : Array TypeId}   :
    Does Try.prog { dst, op := .call { callee := .value (.func 78), args := #[], argTypes := ats }, type := ty, pos, after, guard } a.eval w fun v w' => Below w.heap.size w w' ∧ (OutQ 0 1 5) v w' := by
  
  refine does_call has_qzero _ (by simp only [List.map_toArray, List.map_nil]) ((qzero_z w  ).mono ?_)
  rintro e w' ⟨v, rfl, h1, hb⟩
  exact ⟨_, rfl, hb, h1⟩
set_option maxRecDepth 20000 in
set_option maxHeartbeats 2000000 in
theorem qread_z (w : World) (Br : Nat) (nr : Bool) (ar : Option Addr) (mr cr : Nat) (rs : List Int) (pr : Int) (Ar : Ag w nr ar mr cr rs pr) (Lr : rs.length ≤ Br) (br : Option Addr) (kr dr : Nat) (rt : List Int) (qr : Int) (Sr : Sl w (.slice br kr dr) rt) (Vr : val rt = qr) (Mr : rt.length ≤ Br) (hL : Br ≤ 10000) :
    Calls Try.prog 51 #[.agg #[.bool nr, .slice ar mr cr, .slice br kr dr]] w fun e w' => ∃ v, e = .returned v ∧ (OutQ (nm (tp pr qr) (tq qr)) (dn (tp pr qr) (tq qr)) (6 * Br + 10)) v w' ∧ Below w.heap.size w w' := by
  go_enter Try.func51, Try.ntmps51
  generalize hA : (Act.mk _ _) = aa
  have hn : aa.tmps.size = 16 := by rw [← hA]; rfl
  have hd : aa.defers = [] := by rw [← hA]
  have f0 : aa.eval (.tmp 0) = .agg #[.bool nr, .slice ar mr cr, .slice br kr dr] := by rw [← hA]; rfl
  clear hA
  have HB : Below w.heap.size w w := Below.refl _ _
  have Dr : Ag w false br kr dr rt qr := ⟨Sr, Vr⟩
  refine wp_seq ?_
  refine region4 [some 1, some 2] [(fun _ _ => True), (fun _ _ => True)] [⟨R3, some 0, 0, 1, .agg #[.bool nr, .slice ar mr cr, .slice br kr dr], none, []⟩, ⟨Q4, some 1, 0, 2, .agg #[.bool false, .slice none 0 0, .bool false, .slice none 0 0], none, []⟩] [] (by kernel_rfl) hn rfl (by kernel_rfl) (by kernel_rfl) (by kernel_rfl) (by kernel_rfl) (by kernel_rfl) (by kernel_rfl) ⟨True.mono4, True.mono4, trivial⟩ (ok_cons R3ok (ok_cons Q4ok ok_nil)) (IsOld.all (bx := [⟨R3, some 0, 0, 1, .agg #[.bool nr, .slice ar mr cr, .slice br kr dr], none, []⟩, ⟨Q4, some 1, 0, 2, .agg #[.bool false, .slice none 0 0, .bool false, .slice none 0 0], none, []⟩]) ⟨someNe, someNe, trivial⟩) (DisOld.all (bx := [⟨R3, some 0, 0, 1, .agg #[.bool nr, .slice ar mr cr, .slice br kr dr], none, []⟩, ⟨Q4, some 1, 0, 2, .agg #[.bool false, .slice none 0 0, .bool false, .slice none 0 0], none, []⟩]) ⟨someNe, someNe, trivial⟩) ?_ ?_
  · exact ⟨.alloc 0 _ rfl rfl (.inr ⟨_, rfl, r3_cs, fun a_ hR => (hR 0 rfl).trans f0⟩) rfl rfl rfl rfl rfl,
      .alloc 1 _ rfl rfl (.inl ⟨rfl, rfl⟩) rfl rfl rfl rfl rfl,
      trivial⟩
  · intro a1 w1 gs1 hn1 hd1 hBt hr hR hP hX hU
    replace hn := hn1; replace hd := hd1.trans hd
    have ne1_2 : gs1 0 ≠ gs1 1 := hU 0 1 (by simp) (by simp) (by decide)
    have b1 : BoxV R3 w1 (gs1 0) (.agg #[.bool nr, .slice ar mr cr, .slice br kr dr]) := (hX 0 _ rfl).2.2.2
    have f1 := (hX 0 _ rfl).1
    have u1 : w.heap.size ≤ gs1 0 := Nat.le_trans HB.size ((hX 0 _ rfl).2.2.1 (by simp))
    have b2 : BoxV Q4 w1 (gs1 1) (.agg #[.bool false, .slice none 0 0, .bool false, .slice none 0 0]) := (hX 1 _ rfl).2.2.2
    have f2 := (hX 1 _ rfl).1
    have u2 : w.heap.size ≤ gs1 1 := Nat.le_trans HB.size ((hX 1 _ rfl).2.2.1 (by simp))
    replace Ar := Ar.rl hr
    replace Sr := Sr.rl hr
    replace Dr := Dr.rl hr
    replace HB := HB.trans (hBt.below HB.size (UpOld.all (bx := [⟨R3, some 0, 0, 1, .agg #[.bool nr, .slice ar mr cr, .slice br kr dr], none, []⟩, ⟨Q4, some 1, 0, 2, .agg #[.bool false, .slice none 0 0, .bool false, .slice none 0 0], none, []⟩]) ⟨someNe, someNe, trivial⟩))
    clear hBt hr hR hP hX hU
    refine wp_seq ?_
    refine region4 [some 4, some 5, some 6, some 3, none] [Eqs (.pointer (some ⟨gs1 0, 2, none⟩)), Eqs (.slice br kr dr), OutN (qr) (3 * (Br)), (fun _ _ => True), (fun _ _ => True)] [⟨N2, some 3, 0, 3, .agg #[.bool false, .slice none 0 0], some (4, 6, 2), []⟩] [] (by kernel_rfl) hn rfl (by kernel_rfl) (by kernel_rfl) (by kernel_rfl) (by kernel_rfl) (by kernel_rfl) (by kernel_rfl) ⟨Eqs.mono4 _, Eqs.mono4 _, OutN.mono4 _ _, True.mono4, True.mono4, trivial⟩ (ok_cons N2ok ok_nil) (IsOld.all (bx := [⟨N2, some 3, 0, 3, .agg #[.bool false, .slice none 0 0], some (4, 6, 2), []⟩]) ⟨someNe, trivial⟩) (DisOld.all (bx := [⟨N2, some 3, 0, 3, .agg #[.bool false, .slice none 0 0], some (4, 6, 2), []⟩]) ⟨someNe, trivial⟩) ?_ ?_
    · exact ⟨.norm 4 rfl rfl rfl (fun a_ w_ hn_ hBt hr hR hD hO hS => op_faR fa_den ((hR 1 rfl).trans f1)),
        .norm 5 rfl rfl rfl (fun a_ w_ hn_ hBt hr hR hD hO hS => op_ldden (show a_.eval (.tmp 4) = .pointer (some ⟨gs1 0, 2, none⟩) from hD 0 rfl) (b1.keep hBt ⟨someNe, trivial⟩)),
        .norm 6 rfl rfl rfl (fun a_ w_ hn_ hBt hr hR hD hO hS => op_nfrom (isl_eq (show a_.eval (.tmp 5) = .slice br kr dr from hD 1 rfl) (Sr.rl hr) Vr Mr) (by omega)),
        .alloc 0 _ rfl rfl (.inl ⟨rfl, rfl⟩) rfl rfl rfl rfl rfl,
        .store 0 _ _ _ rfl rfl rfl rfl rfl rfl rfl (fun ia h => by cases h; rfl) rfl rfl rfl OutN.cs,
        trivial⟩
    · intro a2 w2 gs2 hn2 hd2 hBt hr hR hP hX hU
      replace hn := hn2; replace hd := hd2.trans hd
      have ne2_3 : (gs1 1) ≠ gs2 0 := by have h1 := b2.lt; have h2 := (hX 0 _ rfl).2.2.1 (by simp); omega
      replace b1 := b1.keep hBt ⟨someNe, trivial⟩
      replace b2 := b2.keep hBt ⟨someNe, trivial⟩
      obtain ⟨n_3, a_3, c_3, r_3, e6, G3, l3⟩ : OutN (qr) (3 * (Br)) (a2.eval (.tmp 6)) w2 := hP 2 (by decide)
      have b3 : BoxV N2 w2 (gs2 0) (.agg #[.bool n_3, .slice a_3 r_3.length c_3]) := boxv_of (hX 0 _ rfl).2.2.2 e6
      have f3 := (hX 0 _ rfl).1
      have u3 : w.heap.size ≤ gs2 0 := Nat.le_trans HB.size ((hX 0 _ rfl).2.2.1 (by simp))
      replace f1 := (hR 1 rfl).trans f1
      replace f2 := (hR 2 rfl).trans f2
      replace Ar := Ar.rl hr
      replace Sr := Sr.rl hr
      replace Dr := Dr.rl hr
      replace HB := HB.trans (hBt.below HB.size (UpOld.all (bx := [⟨N2, some 3, 0, 3, .agg #[.bool false, .slice none 0 0], some (4, 6, 2), []⟩]) ⟨someNe, trivial⟩))
      clear hBt hr hR hP hX hU
      refine wp_seq ?_
      refine wp_seq ?_
      refine region4 [some 7, some 8, some 9] [Eqs (.agg #[.bool n_3, .slice a_3 r_3.length c_3]), Eqs (.int .i64 (Int.sign qr)), Eqs (.bool (decide ((Int.sign qr) = 0)))] [] [] (by kernel_rfl) hn rfl (by kernel_rfl) (by kernel_rfl) (by kernel_rfl) (by kernel_rfl) (by kernel_rfl) (by kernel_rfl) ⟨Eqs.mono4 _, Eqs.mono4 _, Eqs.mono4 _, trivial⟩ ok_nil (IsOld.all (bx := []) trivial) (DisOld.all (bx := []) trivial) ?_ ?_
      · exact ⟨.norm 7 rfl rfl rfl (fun a_ w_ hn_ hBt hr hR hD hO hS => op_loadv N2ok ((hR 3 rfl).trans f3) (b3.keep hBt trivial)),
          .norm 8 rfl rfl rfl (fun a_ w_ hn_ hBt hr hR hD hO hS => op_nsign (outn_eq (show a_.eval (.tmp 7) = .agg #[.bool n_3, .slice a_3 r_3.length c_3] from hD 0 rfl) (G3.rl hr) l3)),
          .norm 9 rfl rfl rfl (fun a_ w_ hn_ hBt hr hR hD hO hS => op_eqlk (show a_.eval (.tmp 8) = .int .i64 (Int.sign qr) from hD 1 rfl)),
          trivial⟩
      · intro a4 w4 gs4 hn4 hd4 hBt hr hR hP hX hU
        replace hn := hn4; replace hd := hd4.trans hd
        replace b1 := b1.keep hBt trivial
        replace b2 := b2.keep hBt trivial
        replace b3 := b3.keep hBt trivial
        replace f1 := (hR 1 rfl).trans f1
        replace f2 := (hR 2 rfl).trans f2
        replace f3 := (hR 3 rfl).trans f3
        have e9 : a4.eval (.tmp 9) = .bool (decide ((Int.sign qr) = 0)) := hP 2 (by decide)
        have f9 := e9
        replace Ar := Ar.rl hr
        replace Sr := Sr.rl hr
        replace Dr := Dr.rl hr
        replace G3 := G3.rl hr
        replace HB := HB.trans (hBt.below HB.size (UpOld.all (bx := []) trivial))
        clear hBt hr hR hP hX hU
        refine wp_cond_split f9 (fun hc9 => ?_) (fun hc9 => ?_)
        · skip
          have hq0 : qr = 0 := Int.sign_eq_zero_iff_zero.1 (of_decide_eq_true hc9)
          refine wp_seq ?_
          refine region4 [some 10, none] [OutQ (0) (1) (5), (fun _ _ => True)] [⟨Q4, none, (gs1 1), 2, .agg #[.bool false, .slice none 0 0, .bool false, .slice none 0 0], some (1, 10, 0), []⟩] [] (by kernel_rfl) hn rfl (by kernel_rfl) (by kernel_rfl) (by kernel_rfl) (by kernel_rfl) (by kernel_rfl) (by kernel_rfl) ⟨OutQ.mono4 _ _ _, True.mono4, trivial⟩ (ok_cons Q4ok ok_nil) (IsOld.all (bx := [⟨Q4, none, (gs1 1), 2, .agg #[.bool false, .slice none 0 0, .bool false, .slice none 0 0], some (1, 10, 0), []⟩]) ⟨fun _ => ⟨f2, b2⟩, trivial⟩) (DisOld.all (bx := [⟨Q4, none, (gs1 1), 2, .agg #[.bool false, .slice none 0 0, .bool false, .slice none 0 0], some (1, 10, 0), []⟩]) ⟨fun _ => trivial, trivial⟩) ?_ ?_
          · exact ⟨.norm 10 rfl rfl rfl (fun a_ w_ hn_ hBt hr hR hD hO hS => op_qzero),
              .store 0 _ _ _ rfl rfl rfl rfl rfl rfl rfl (fun ia h => by cases h) rfl rfl rfl OutQ.cs,
              trivial⟩
          · intro a5 w5 gs5 hn5 hd5 hBt hr hR hP hX hU
            replace hn := hn5; replace hd := hd5.trans hd
            replace b1 := b1.keep hBt ⟨fun _ => ne1_2.symm, trivial⟩
            replace b3 := b3.keep hBt ⟨fun _ => ne2_3, trivial⟩
            obtain ⟨n_6, a_6, c_6, r_6, o_6, b_6, d_6, s_6, e10, G6, K6, l6, k6⟩ : OutQ (0) (1) (5) (a5.eval (.tmp 10)) w5 := hP 0 (by decide)
            have b2 : BoxV Q4 w5 ((gs1 1)) (.agg #[.bool n_6, .slice a_6 r_6.length c_6, .bool o_6, .slice b_6 s_6.length d_6]) := boxv_old ((hX 0 _ rfl).2.1 rfl) (hX 0 _ rfl).2.2.2 e10
            replace f2 : a5.eval (.tmp 2) = _ := (hR 2 rfl).trans f2
            replace f1 := (hR 1 rfl).trans f1
            replace f3 := (hR 3 rfl).trans f3
            replace Ar := Ar.rl hr
            replace Sr := Sr.rl hr
            replace Dr := Dr.rl hr
            replace G3 := G3.rl hr
            replace HB := HB.trans (hBt.below HB.size (UpOld.all (bx := [⟨Q4, none, (gs1 1), 2, .agg #[.bool false, .slice none 0 0, .bool false, .slice none 0 0], some (1, 10, 0), []⟩]) ⟨fun _ => u2, trivial⟩))
            clear hBt hr hR hP hX hU
            refine wp_ret ?_
            repeat (first | refine then_ret ?_ | refine scope_ret ?_ | refine block_ret ?_)
            exact bodyPost_ret (v := .agg #[.bool n_6, .slice a_6 r_6.length c_6, .bool o_6, .slice b_6 s_6.length d_6]) (res_c rfl f2 (lv_Q4 b2)) hd ⟨_, rfl, OutQ.to (outq_eq rfl G6 K6 l6 k6) (read_zero hq0).1 (read_zero hq0).2 (by omega), HB⟩
        · skip
          have hq0 : qr ≠ 0 := fun e => of_decide_eq_false hc9 (Int.sign_eq_zero_iff_zero.2 e)
          refine wp_skip ?_
          refine wp_seq ?_
          refine region4 [some 11, some 12, some 13, some 14, some 15, none] [Eqs (.pointer (some ⟨gs1 0, 0, none⟩)), Eqs (.agg #[.bool nr, .slice ar mr cr]), OutN (pr) (3 * (Br)), Eqs (.agg #[.bool n_3, .slice a_3 r_3.length c_3]), OutQ ((nm pr qr)) ((dn pr qr)) ((3 * (Br)) + (3 * (Br))), (fun _ _ => True)] [⟨Q4, none, (gs1 1), 2, .agg #[.bool false, .slice none 0 0, .bool false, .slice none 0 0], some (5, 15, 4), []⟩] [] (by kernel_rfl) hn rfl (by kernel_rfl) (by kernel_rfl) (by kernel_rfl) (by kernel_rfl) (by kernel_rfl) (by kernel_rfl) ⟨Eqs.mono4 _, Eqs.mono4 _, OutN.mono4 _ _, Eqs.mono4 _, OutQ.mono4 _ _ _, True.mono4, trivial⟩ (ok_cons Q4ok ok_nil) (IsOld.all (bx := [⟨Q4, none, (gs1 1), 2, .agg #[.bool false, .slice none 0 0, .bool false, .slice none 0 0], some (5, 15, 4), []⟩]) ⟨fun _ => ⟨f2, b2⟩, trivial⟩) (DisOld.all (bx := [⟨Q4, none, (gs1 1), 2, .agg #[.bool false, .slice none 0 0, .bool false, .slice none 0 0], some (5, 15, 4), []⟩]) ⟨fun _ => trivial, trivial⟩) ?_ ?_
          · exact ⟨.norm 11 rfl rfl rfl (fun a_ w_ hn_ hBt hr hR hD hO hS => op_faR fa_num ((hR 1 rfl).trans f1)),
              .norm 12 rfl rfl rfl (fun a_ w_ hn_ hBt hr hR hD hO hS => op_ldnum (show a_.eval (.tmp 11) = .pointer (some ⟨gs1 0, 0, none⟩) from hD 0 rfl) (b1.keep hBt ⟨fun _ => ne1_2.symm, trivial⟩)),
              .norm 13 rfl rfl rfl (fun a_ w_ hn_ hBt hr hR hD hO hS => op_nof (L := Br) (isw_eq (show a_.eval (.tmp 12) = .agg #[.bool nr, .slice ar mr cr] from hD 1 rfl) (Ar.rl hr) Lr) (by omega)),
              .norm 14 rfl rfl rfl (fun a_ w_ hn_ hBt hr hR hD hO hS => op_loadv N2ok ((hR 3 rfl).trans f3) (b3.keep hBt ⟨fun _ => ne2_3, trivial⟩)),
              .norm 15 rfl rfl rfl (fun a_ w_ hn_ hBt hr hR hD hO hS => op_qmake (Bx := 3 * (Br)) (By := 3 * (Br)) (show OutN (pr) (3 * (Br)) (a_.eval (.tmp 13)) w_ from hD 2 rfl) (outn_eq (show a_.eval (.tmp 14) = .agg #[.bool n_3, .slice a_3 r_3.length c_3] from hD 3 rfl) (G3.rl hr) l3) (by omega) hq0),
              .store 0 _ _ _ rfl rfl rfl rfl rfl rfl rfl (fun ia h => by cases h) rfl rfl rfl OutQ.cs,
              trivial⟩
          · intro a7 w7 gs7 hn7 hd7 hBt hr hR hP hX hU
            replace hn := hn7; replace hd := hd7.trans hd
            obtain ⟨n_8, a_8, c_8, r_8, o_8, b_8, d_8, s_8, e15, G8, K8, l8, k8⟩ : OutQ ((nm pr qr)) ((dn pr qr)) ((3 * (Br)) + (3 * (Br))) (a7.eval (.tmp 15)) w7 := hP 4 (by decide)
            have b2 : BoxV Q4 w7 ((gs1 1)) (.agg #[.bool n_8, .slice a_8 r_8.length c_8, .bool o_8, .slice b_8 s_8.length d_8]) := boxv_old ((hX 0 _ rfl).2.1 rfl) (hX 0 _ rfl).2.2.2 e15
            replace f2 : a7.eval (.tmp 2) = _ := (hR 2 rfl).trans f2
            replace Ar := Ar.rl hr
            replace Sr := Sr.rl hr
            replace Dr := Dr.rl hr
            replace G3 := G3.rl hr
            replace HB := HB.trans (hBt.below HB.size (UpOld.all (bx := [⟨Q4, none, (gs1 1), 2, .agg #[.bool false, .slice none 0 0, .bool false, .slice none 0 0], some (5, 15, 4), []⟩]) ⟨fun _ => u2, trivial⟩))
            clear hBt hr hR hP hX hU
            refine wp_ret ?_
            repeat (first | refine then_ret ?_ | refine scope_ret ?_ | refine block_ret ?_)
            exact bodyPost_ret (v := .agg #[.bool n_8, .slice a_8 r_8.length c_8, .bool o_8, .slice b_8 s_8.length d_8]) (res_c rfl f2 (lv_Q4 b2)) hd ⟨_, rfl, OutQ.to (outq_eq rfl G8 K8 l8 k8) (read_some hq0).1 (read_some hq0).2 (by omega), HB⟩
theorem has_qread : Has Try.prog 51 := by unfold Has; kernel_rfl
theorem op_qread {dst : Option Tmp} {ty : TypeId} {pos : String} {after : Array Edge} {guard : Option (Nat × Bool)} {a : Act} {w : World} {ats : Array TypeId} {i : Nat} {Br : Nat} {pr qr : Int} (Hr : IsR pr qr Br (a.eval (.tmp i)) w) (hL : Br ≤ 10000) :
    Does Try.prog { dst, op := .call { callee := .value (.func 51), args := #[.tmp i], argTypes := ats }, type := ty, pos, after, guard } a.eval w fun v w' => Below w.heap.size w w' ∧ (OutQ (nm (tp pr qr) (tq qr)) (dn (tp pr qr) (tq qr)) (6 * Br + 10)) v w' := by
  obtain ⟨nr, ar, mr, cr, rs, br, kr, dr, rt, er, Ar, Sr, Vr, Lr, Mr⟩ := Hr
  refine does_call has_qread _ (by simp only [List.map_toArray, List.map_cons, List.map_nil, er]) ((qread_z w Br _ _ _ _ _ _ Ar Lr _ _ _ _ _ Sr Vr Mr hL).mono ?_)
  rintro e w' ⟨v, rfl, h1, hb⟩
  exact ⟨_, rfl, hb, h1⟩
set_option maxRecDepth 20000 in
set_option maxHeartbeats 2000000 in
theorem qminus_z (w : World) (Bx : Nat) (nx : Bool) (ax : Option Addr) (cx : Nat) (xs : List Int) (px : Int) (Gx : Dm.Wh w nx ax cx xs px) (Lx : xs.length ≤ Bx) (ox : Bool) (bx : Option Addr) (dx : Nat) (xt : List Int) (qx : Int) (Kx : Dm.Wh w ox bx dx xt qx) (Mx : xt.length ≤ Bx) (hL : Bx ≤ 400000) :
    Calls Try.prog 58 #[.agg #[.bool nx, .slice ax xs.length cx, .bool ox, .slice bx xt.length dx]] w fun e w' => ∃ v, e = .returned v ∧ (OutQ (-px) qx (2 * Bx)) v w' ∧ Below w.heap.size w w' := by
  go_enter Try.func58, Try.ntmps58
  generalize hA : (Act.mk _ _) = aa
  have hn : aa.tmps.size = 9 := by rw [← hA]; rfl
  have hd : aa.defers = [] := by rw [← hA]
  have f0 : aa.eval (.tmp 0) = .agg #[.bool nx, .slice ax xs.length cx, .bool ox, .slice bx xt.length dx] := by rw [← hA]; rfl
  clear hA
  have HB : Below w.heap.size w w := Below.refl _ _
  refine wp_seq ?_
  refine region4 [some 1, some 2] [(fun _ _ => True), (fun _ _ => True)] [⟨Q4, some 0, 0, 1, .agg #[.bool nx, .slice ax xs.length cx, .bool ox, .slice bx xt.length dx], none, []⟩, ⟨Q4, some 1, 0, 2, .agg #[.bool false, .slice none 0 0, .bool false, .slice none 0 0], none, []⟩] [] (by kernel_rfl) hn rfl (by kernel_rfl) (by kernel_rfl) (by kernel_rfl) (by kernel_rfl) (by kernel_rfl) (by kernel_rfl) ⟨True.mono4, True.mono4, trivial⟩ (ok_cons Q4ok (ok_cons Q4ok ok_nil)) (IsOld.all (bx := [⟨Q4, some 0, 0, 1, .agg #[.bool nx, .slice ax xs.length cx, .bool ox, .slice bx xt.length dx], none, []⟩, ⟨Q4, some 1, 0, 2, .agg #[.bool false, .slice none 0 0, .bool false, .slice none 0 0], none, []⟩]) ⟨someNe, someNe, trivial⟩) (DisOld.all (bx := [⟨Q4, some 0, 0, 1, .agg #[.bool nx, .slice ax xs.length cx, .bool ox, .slice bx xt.length dx], none, []⟩, ⟨Q4, some 1, 0, 2, .agg #[.bool false, .slice none 0 0, .bool false, .slice none 0 0], none, []⟩]) ⟨someNe, someNe, trivial⟩) ?_ ?_
  · exact ⟨.alloc 0 _ rfl rfl (.inr ⟨_, rfl, q4_cs, fun a_ hR => (hR 0 rfl).trans f0⟩) rfl rfl rfl rfl rfl,
      .alloc 1 _ rfl rfl (.inl ⟨rfl, rfl⟩) rfl rfl rfl rfl rfl,
      trivial⟩
  · intro a1 w1 gs1 hn1 hd1 hBt hr hR hP hX hU
    replace hn := hn1; replace hd := hd1.trans hd
    have ne1_2 : gs1 0 ≠ gs1 1 := hU 0 1 (by simp) (by simp) (by decide)
    have b1 : BoxV Q4 w1 (gs1 0) (.agg #[.bool nx, .slice ax xs.length cx, .bool ox, .slice bx xt.length dx]) := (hX 0 _ rfl).2.2.2
    have f1 := (hX 0 _ rfl).1
    have u1 : w.heap.size ≤ gs1 0 := Nat.le_trans HB.size ((hX 0 _ rfl).2.2.1 (by simp))
    have b2 : BoxV Q4 w1 (gs1 1) (.agg #[.bool false, .slice none 0 0, .bool false, .slice none 0 0]) := (hX 1 _ rfl).2.2.2
    have f2 := (hX 1 _ rfl).1
    have u2 : w.heap.size ≤ gs1 1 := Nat.le_trans HB.size ((hX 1 _ rfl).2.2.1 (by simp))
    replace Gx := Gx.rl hr
    replace Kx := Kx.rl hr
    replace HB := HB.trans (hBt.below HB.size (UpOld.all (bx := [⟨Q4, some 0, 0, 1, .agg #[.bool nx, .slice ax xs.length cx, .bool ox, .slice bx xt.length dx], none, []⟩, ⟨Q4, some 1, 0, 2, .agg #[.bool false, .slice none 0 0, .bool false, .slice none 0 0], none, []⟩]) ⟨someNe, someNe, trivial⟩))
    clear hBt hr hR hP hX hU
    refine wp_seq ?_
    refine region4 [some 3, some 4, some 5, some 6, some 7, some 8, none] [Eqs (.pointer (some ⟨gs1 0, 0, none⟩)), Eqs (.agg #[.bool nx, .slice ax xs.length cx]), OutN ((-px)) (Bx), Eqs (.pointer (some ⟨gs1 0, 2, none⟩)), Eqs (.agg #[.bool ox, .slice bx xt.length dx]), OutQ ((-px)) (qx) ((Bx) + (Bx)), (fun _ _ => True)] [⟨Q4, none, (gs1 1), 2, .agg #[.bool false, .slice none 0 0, .bool false, .slice none 0 0], some (6, 8, 5), []⟩] [] (by kernel_rfl) hn rfl (by kernel_rfl) (by kernel_rfl) (by kernel_rfl) (by kernel_rfl) (by kernel_rfl) (by kernel_rfl) ⟨Eqs.mono4 _, Eqs.mono4 _, OutN.mono4 _ _, Eqs.mono4 _, Eqs.mono4 _, OutQ.mono4 _ _ _, True.mono4, trivial⟩ (ok_cons Q4ok ok_nil) (IsOld.all (bx := [⟨Q4, none, (gs1 1), 2, .agg #[.bool false, .slice none 0 0, .bool false, .slice none 0 0], some (6, 8, 5), []⟩]) ⟨fun _ => ⟨f2, b2⟩, trivial⟩) (DisOld.all (bx := [⟨Q4, none, (gs1 1), 2, .agg #[.bool false, .slice none 0 0, .bool false, .slice none 0 0], some (6, 8, 5), []⟩]) ⟨fun _ => trivial, trivial⟩) ?_ ?_
    · exact ⟨.norm 3 rfl rfl rfl (fun a_ w_ hn_ hBt hr hR hD hO hS => op_faQ fa_q0 ((hR 1 rfl).trans f1)),
        .norm 4 rfl rfl rfl (fun a_ w_ hn_ hBt hr hR hD hO hS => op_ldq0 (show a_.eval (.tmp 3) = .pointer (some ⟨gs1 0, 0, none⟩) from hD 0 rfl) (b1.keep hBt ⟨fun _ => ne1_2.symm, trivial⟩)),
        .norm 5 rfl rfl rfl (fun a_ w_ hn_ hBt hr hR hD hO hS => op_nminus (outn_eq (show a_.eval (.tmp 4) = .agg #[.bool nx, .slice ax xs.length cx] from hD 1 rfl) (Gx.rl hr) Lx) (by omega)),
        .norm 6 rfl rfl rfl (fun a_ w_ hn_ hBt hr hR hD hO hS => op_faQ fa_q1 ((hR 1 rfl).trans f1)),
        .norm 7 rfl rfl rfl (fun a_ w_ hn_ hBt hr hR hD hO hS => op_ldq1 (show a_.eval (.tmp 6) = .pointer (some ⟨gs1 0, 2, none⟩) from hD 3 rfl) (b1.keep hBt ⟨fun _ => ne1_2.symm, trivial⟩)),
        .norm 8 rfl rfl rfl (fun a_ w_ hn_ hBt hr hR hD hO hS => op_bQ (L := (Bx) + (Bx)) ((show OutN ((-px)) (Bx) (a_.eval (.tmp 5)) w_ from hD 2 rfl).to rfl (by omega)) ((outn_eq (show a_.eval (.tmp 7) = .agg #[.bool ox, .slice bx xt.length dx] from hD 4 rfl) (Kx.rl hr) Mx).to rfl (by omega))),
        .store 0 _ _ _ rfl rfl rfl rfl rfl rfl rfl (fun ia h => by cases h) rfl rfl rfl OutQ.cs,
        trivial⟩
    · intro a2 w2 gs2 hn2 hd2 hBt hr hR hP hX hU
      replace hn := hn2; replace hd := hd2.trans hd
      obtain ⟨n_3, a_3, c_3, r_3, o_3, b_3, d_3, s_3, e8, G3, K3, l3, k3⟩ : OutQ ((-px)) (qx) ((Bx) + (Bx)) (a2.eval (.tmp 8)) w2 := hP 5 (by decide)
      have b2 : BoxV Q4 w2 ((gs1 1)) (.agg #[.bool n_3, .slice a_3 r_3.length c_3, .bool o_3, .slice b_3 s_3.length d_3]) := boxv_old ((hX 0 _ rfl).2.1 rfl) (hX 0 _ rfl).2.2.2 e8
      replace f2 : a2.eval (.tmp 2) = _ := (hR 2 rfl).trans f2
      replace Gx := Gx.rl hr
      replace Kx := Kx.rl hr
      replace HB := HB.trans (hBt.below HB.size (UpOld.all (bx := [⟨Q4, none, (gs1 1), 2, .agg #[.bool false, .slice none 0 0, .bool false, .slice none 0 0], some (6, 8, 5), []⟩]) ⟨fun _ => u2, trivial⟩))
      clear hBt hr hR hP hX hU
      refine wp_ret ?_
      repeat (first | refine then_ret ?_ | refine scope_ret ?_ | refine block_ret ?_)
      exact bodyPost_ret (v := .agg #[.bool n_3, .slice a_3 r_3.length c_3, .bool o_3, .slice b_3 s_3.length d_3]) (res_c rfl f2 (lv_Q4 b2)) hd ⟨_, rfl, OutQ.to (outq_eq rfl G3 K3 l3 k3) rfl rfl (by omega), HB⟩
theorem has_qminus : Has Try.prog 58 := by unfold Has; kernel_rfl
theorem op_qminus {dst : Option Tmp} {ty : TypeId} {pos : String} {after : Array Edge} {guard : Option (Nat × Bool)} {a : Act} {w : World} {ats : Array TypeId} {i : Nat} {Bx : Nat} {px qx : Int} (Hx : OutQ px qx Bx (a.eval (.tmp i)) w) (hL : Bx ≤ 400000) :
    Does Try.prog { dst, op := .call { callee := .value (.func 58), args := #[.tmp i], argTypes := ats }, type := ty, pos, after, guard } a.eval w fun v w' => Below w.heap.size w w' ∧ (OutQ (-px) qx (2 * Bx)) v w' := by
  obtain ⟨nx, ax, cx, xs, ox, bx, dx, xt, ex, Gx, Kx, Lx, Mx⟩ := Hx
  refine does_call has_qminus _ (by simp only [List.map_toArray, List.map_cons, List.map_nil, ex]) ((qminus_z w Bx _ _ _ _ _ Gx Lx _ _ _ _ _ Kx Mx hL).mono ?_)
  rintro e w' ⟨v, rfl, h1, hb⟩
  exact ⟨_, rfl, hb, h1⟩
set_option maxRecDepth 20000 in
set_option maxHeartbeats 2000000 in
theorem qlong_z (w : World) (Bx : Nat) (nx : Bool) (ax : Option Addr) (cx : Nat) (xs : List Int) (px : Int) (Gx : Dm.Wh w nx ax cx xs px) (Lx : xs.length ≤ Bx) (ox : Bool) (bx : Option Addr) (dx : Nat) (xt : List Int) (qx : Int) (Kx : Dm.Wh w ox bx dx xt qx) (Mx : xt.length ≤ Bx) (hL : Bx ≤ 1000000) (mP mQ : Nat) (hmP : IsLen (px.natAbs : Int) mP) (hmQ : IsLen (qx.natAbs : Int) mQ) :
    Calls Try.prog 55 #[.agg #[.bool nx, .slice ax xs.length cx, .bool ox, .slice bx xt.length dx]] w fun e w' => ∃ v, e = .returned v ∧ (Eqs (.int .i64 ((max mP mQ : Nat) : Int))) v w' ∧ Below w.heap.size w w' := by
  go_enter Try.func55, Try.ntmps55
  generalize hA : (Act.mk _ _) = aa
  have hn : aa.tmps.size = 16 := by rw [← hA]; rfl
  have hd : aa.defers = [] := by rw [← hA]
  have f0 : aa.eval (.tmp 0) = .agg #[.bool nx, .slice ax xs.length cx, .bool ox, .slice bx xt.length dx] := by rw [← hA]; rfl
  clear hA
  have HB : Below w.heap.size w w := Below.refl _ _
  refine wp_seq ?_
  refine region4 [some 1, some 2] [(fun _ _ => True), Eqs ((.int .i64 0))] [⟨Q4, some 0, 0, 1, .agg #[.bool nx, .slice ax xs.length cx, .bool ox, .slice bx xt.length dx], none, []⟩] [] (by kernel_rfl) hn rfl (by kernel_rfl) (by kernel_rfl) (by kernel_rfl) (by kernel_rfl) (by kernel_rfl) (by kernel_rfl) ⟨True.mono4, Eqs.mono4 _, trivial⟩ (ok_cons Q4ok ok_nil) (IsOld.all (bx := [⟨Q4, some 0, 0, 1, .agg #[.bool nx, .slice ax xs.length cx, .bool ox, .slice bx xt.length dx], none, []⟩]) ⟨someNe, trivial⟩) (DisOld.all (bx := [⟨Q4, some 0, 0, 1, .agg #[.bool nx, .slice ax xs.length cx, .bool ox, .slice bx xt.length dx], none, []⟩]) ⟨someNe, trivial⟩) ?_ ?_
  · exact ⟨.alloc 0 _ rfl rfl (.inr ⟨_, rfl, q4_cs, fun a_ hR => (hR 0 rfl).trans f0⟩) rfl rfl rfl rfl rfl,
      .norm 2 rfl rfl rfl (fun a_ w_ hn_ hBt hr hR hD hO hS => op_assign rfl),
      trivial⟩
  · intro a1 w1 gs1 hn1 hd1 hBt hr hR hP hX hU
    replace hn := hn1; replace hd := hd1.trans hd
    have b1 : BoxV Q4 w1 (gs1 0) (.agg #[.bool nx, .slice ax xs.length cx, .bool ox, .slice bx xt.length dx]) := (hX 0 _ rfl).2.2.2
    have f1 := (hX 0 _ rfl).1
    have u1 : w.heap.size ≤ gs1 0 := Nat.le_trans HB.size ((hX 0 _ rfl).2.2.1 (by simp))
    have e2 : a1.eval (.tmp 2) = (.int .i64 0) := hP 1 (by decide)
    have f2 := e2
    replace Gx := Gx.rl hr
    replace Kx := Kx.rl hr
    replace HB := HB.trans (hBt.below HB.size (UpOld.all (bx := [⟨Q4, some 0, 0, 1, .agg #[.bool nx, .slice ax xs.length cx, .bool ox, .slice bx xt.length dx], none, []⟩]) ⟨someNe, trivial⟩))
    clear hBt hr hR hP hX hU
    refine wp_seq ?_
    refine region4 [some 5, some 6, some 7, some 3] [Eqs (.pointer (some ⟨gs1 0, 0, none⟩)), Eqs (.agg #[.bool nx, .slice ax xs.length cx]), Eqs (.int .i64 (mP : Int)), Eqs (.int .i64 (mP : Int))] [] [] (by kernel_rfl) hn rfl (by kernel_rfl) (by kernel_rfl) (by kernel_rfl) (by kernel_rfl) (by kernel_rfl) (by kernel_rfl) ⟨Eqs.mono4 _, Eqs.mono4 _, Eqs.mono4 _, Eqs.mono4 _, trivial⟩ ok_nil (IsOld.all (bx := []) trivial) (DisOld.all (bx := []) trivial) ?_ ?_
    · exact ⟨.norm 5 rfl rfl rfl (fun a_ w_ hn_ hBt hr hR hD hO hS => op_faQ fa_q0 ((hR 1 rfl).trans f1)),
        .norm 6 rfl rfl rfl (fun a_ w_ hn_ hBt hr hR hD hO hS => op_ldq0 (show a_.eval (.tmp 5) = .pointer (some ⟨gs1 0, 0, none⟩) from hD 0 rfl) (b1.keep hBt trivial)),
        .norm 7 rfl rfl rfl (fun a_ w_ hn_ hBt hr hR hD hO hS => op_nlong (outn_eq (show a_.eval (.tmp 6) = .agg #[.bool nx, .slice ax xs.length cx] from hD 1 rfl) (Gx.rl hr) Lx) (by omega) mP hmP),
        .norm 3 rfl rfl rfl (fun a_ w_ hn_ hBt hr hR hD hO hS => op_assign (show a_.eval (.tmp 7) = .int .i64 (mP : Int) from hD 2 rfl)),
        trivial⟩
    · intro a2 w2 gs2 hn2 hd2 hBt hr hR hP hX hU
      replace hn := hn2; replace hd := hd2.trans hd
      replace b1 := b1.keep hBt trivial
      replace f1 := (hR 1 rfl).trans f1
      replace f2 := (hR 2 rfl).trans f2
      have e3 : a2.eval (.tmp 3) = .int .i64 (mP : Int) := hP 3 (by decide)
      have f3 := e3
      replace Gx := Gx.rl hr
      replace Kx := Kx.rl hr
      replace HB := HB.trans (hBt.below HB.size (UpOld.all (bx := []) trivial))
      clear hBt hr hR hP hX hU
      refine wp_seq ?_
      refine region4 [some 8, some 9, some 10, some 4] [Eqs (.pointer (some ⟨gs1 0, 2, none⟩)), Eqs (.agg #[.bool ox, .slice bx xt.length dx]), Eqs (.int .i64 (mQ : Int)), Eqs (.int .i64 (mQ : Int))] [] [] (by kernel_rfl) hn rfl (by kernel_rfl) (by kernel_rfl) (by kernel_rfl) (by kernel_rfl) (by kernel_rfl) (by kernel_rfl) ⟨Eqs.mono4 _, Eqs.mono4 _, Eqs.mono4 _, Eqs.mono4 _, trivial⟩ ok_nil (IsOld.all (bx := []) trivial) (DisOld.all (bx := []) trivial) ?_ ?_
      · exact ⟨.norm 8 rfl rfl rfl (fun a_ w_ hn_ hBt hr hR hD hO hS => op_faQ fa_q1 ((hR 1 rfl).trans f1)),
          .norm 9 rfl rfl rfl (fun a_ w_ hn_ hBt hr hR hD hO hS => op_ldq1 (show a_.eval (.tmp 8) = .pointer (some ⟨gs1 0, 2, none⟩) from hD 0 rfl) (b1.keep hBt trivial)),
          .norm 10 rfl rfl rfl (fun a_ w_ hn_ hBt hr hR hD hO hS => op_nlong (outn_eq (show a_.eval (.tmp 9) = .agg #[.bool ox, .slice bx xt.length dx] from hD 1 rfl) (Kx.rl hr) Mx) (by omega) mQ hmQ),
          .norm 4 rfl rfl rfl (fun a_ w_ hn_ hBt hr hR hD hO hS => op_assign (show a_.eval (.tmp 10) = .int .i64 (mQ : Int) from hD 2 rfl)),
          trivial⟩
      · intro a3 w3 gs3 hn3 hd3 hBt hr hR hP hX hU
        replace hn := hn3; replace hd := hd3.trans hd
        replace f2 := (hR 2 rfl).trans f2
        replace f3 := (hR 3 rfl).trans f3
        have e4 : a3.eval (.tmp 4) = .int .i64 (mQ : Int) := hP 3 (by decide)
        have f4 := e4
        replace Gx := Gx.rl hr
        replace Kx := Kx.rl hr
        replace HB := HB.trans (hBt.below HB.size (UpOld.all (bx := []) trivial))
        clear hBt hr hR hP hX hU
        refine wp_seq ?_
        refine wp_seq ?_
        refine region4 [some 11, some 12, some 13] [Eqs (.int .i64 (mP : Int)), Eqs (.int .i64 (mQ : Int)), Eqs (.bool (decide ((mP : Int) < (mQ : Int))))] [] [] (by kernel_rfl) hn rfl (by kernel_rfl) (by kernel_rfl) (by kernel_rfl) (by kernel_rfl) (by kernel_rfl) (by kernel_rfl) ⟨Eqs.mono4 _, Eqs.mono4 _, Eqs.mono4 _, trivial⟩ ok_nil (IsOld.all (bx := []) trivial) (DisOld.all (bx := []) trivial) ?_ ?_
        · exact ⟨.norm 11 rfl rfl rfl (fun a_ w_ hn_ hBt hr hR hD hO hS => op_mv ((hR 3 rfl).trans f3)),
            .norm 12 rfl rfl rfl (fun a_ w_ hn_ hBt hr hR hD hO hS => op_mv ((hR 4 rfl).trans f4)),
            .norm 13 rfl rfl rfl (fun a_ w_ hn_ hBt hr hR hD hO hS => op_lssi (show a_.eval (.tmp 11) = .int .i64 (mP : Int) from hD 0 rfl) (show a_.eval (.tmp 12) = .int .i64 (mQ : Int) from hD 1 rfl)),
            trivial⟩
        · intro a4 w4 gs4 hn4 hd4 hBt hr hR hP hX hU
          replace hn := hn4; replace hd := hd4.trans hd
          replace f2 := (hR 2 rfl).trans f2
          replace f3 := (hR 3 rfl).trans f3
          replace f4 := (hR 4 rfl).trans f4
          have e13 : a4.eval (.tmp 13) = .bool (decide ((mP : Int) < (mQ : Int))) := hP 2 (by decide)
          have f13 := e13
          replace Gx := Gx.rl hr
          replace Kx := Kx.rl hr
          replace HB := HB.trans (hBt.below HB.size (UpOld.all (bx := []) trivial))
          clear hBt hr hR hP hX hU
          refine wp_cond_split f13 (fun hc13 => ?_) (fun hc13 => ?_)
          · skip
            refine wp_seq ?_
            refine region4 [some 14, some 2] [Eqs (.int .i64 (mQ : Int)), Eqs (.int .i64 (mQ : Int))] [] [] (by kernel_rfl) hn rfl (by kernel_rfl) (by kernel_rfl) (by kernel_rfl) (by kernel_rfl) (by kernel_rfl) (by kernel_rfl) ⟨Eqs.mono4 _, Eqs.mono4 _, trivial⟩ ok_nil (IsOld.all (bx := []) trivial) (DisOld.all (bx := []) trivial) ?_ ?_
            · exact ⟨.norm 14 rfl rfl rfl (fun a_ w_ hn_ hBt hr hR hD hO hS => op_mv ((hR 4 rfl).trans f4)),
                .norm 2 rfl rfl rfl (fun a_ w_ hn_ hBt hr hR hD hO hS => op_assign (show a_.eval (.tmp 14) = .int .i64 (mQ : Int) from hD 0 rfl)),
                trivial⟩
            · intro a5 w5 gs5 hn5 hd5 hBt hr hR hP hX hU
              replace hn := hn5; replace hd := hd5.trans hd
              replace f3 := (hR 3 rfl).trans f3
              have e2 : a5.eval (.tmp 2) = .int .i64 (mQ : Int) := hP 1 (by decide)
              have f2 := e2
              replace Gx := Gx.rl hr
              replace Kx := Kx.rl hr
              replace HB := HB.trans (hBt.below HB.size (UpOld.all (bx := []) trivial))
              clear hBt hr hR hP hX hU
              refine wp_ret ?_
              repeat (first | refine then_ret ?_ | refine scope_ret ?_ | refine block_ret ?_)
              exact bodyPost_ret (v := .int .i64 (mQ : Int)) (res_t rfl f2) hd ⟨_, rfl, (by have h := of_decide_eq_true hc13; simp only [Eqs, Value.int.injEq, true_and]; omega), HB⟩
          · skip
            refine wp_skip ?_
            refine wp_seq ?_
            refine region4 [some 15, some 2] [Eqs (.int .i64 (mP : Int)), Eqs (.int .i64 (mP : Int))] [] [] (by kernel_rfl) hn rfl (by kernel_rfl) (by kernel_rfl) (by kernel_rfl) (by kernel_rfl) (by kernel_rfl) (by kernel_rfl) ⟨Eqs.mono4 _, Eqs.mono4 _, trivial⟩ ok_nil (IsOld.all (bx := []) trivial) (DisOld.all (bx := []) trivial) ?_ ?_
            · exact ⟨.norm 15 rfl rfl rfl (fun a_ w_ hn_ hBt hr hR hD hO hS => op_mv ((hR 3 rfl).trans f3)),
                .norm 2 rfl rfl rfl (fun a_ w_ hn_ hBt hr hR hD hO hS => op_assign (show a_.eval (.tmp 15) = .int .i64 (mP : Int) from hD 0 rfl)),
                trivial⟩
            · intro a6 w6 gs6 hn6 hd6 hBt hr hR hP hX hU
              replace hn := hn6; replace hd := hd6.trans hd
              have e2 : a6.eval (.tmp 2) = .int .i64 (mP : Int) := hP 1 (by decide)
              have f2 := e2
              replace Gx := Gx.rl hr
              replace Kx := Kx.rl hr
              replace HB := HB.trans (hBt.below HB.size (UpOld.all (bx := []) trivial))
              clear hBt hr hR hP hX hU
              refine wp_ret ?_
              repeat (first | refine then_ret ?_ | refine scope_ret ?_ | refine block_ret ?_)
              exact bodyPost_ret (v := .int .i64 (mP : Int)) (res_t rfl f2) hd ⟨_, rfl, (by have h := of_decide_eq_false hc13; simp only [Eqs, Value.int.injEq, true_and]; omega), HB⟩
theorem has_qlong : Has Try.prog 55 := by unfold Has; kernel_rfl
theorem op_qlong {dst : Option Tmp} {ty : TypeId} {pos : String} {after : Array Edge} {guard : Option (Nat × Bool)} {a : Act} {w : World} {ats : Array TypeId} {i : Nat} {Bx : Nat} {px qx : Int} (Hx : OutQ px qx Bx (a.eval (.tmp i)) w) (hL : Bx ≤ 1000000) (mP mQ : Nat) (hmP : IsLen (px.natAbs : Int) mP) (hmQ : IsLen (qx.natAbs : Int) mQ) :
    Does Try.prog { dst, op := .call { callee := .value (.func 55), args := #[.tmp i], argTypes := ats }, type := ty, pos, after, guard } a.eval w fun v w' => Below w.heap.size w w' ∧ (Eqs (.int .i64 ((max mP mQ : Nat) : Int))) v w' := by
  obtain ⟨nx, ax, cx, xs, ox, bx, dx, xt, ex, Gx, Kx, Lx, Mx⟩ := Hx
  refine does_call has_qlong _ (by simp only [List.map_toArray, List.map_cons, List.map_nil, ex]) ((qlong_z w Bx _ _ _ _ _ Gx Lx _ _ _ _ _ Kx Mx hL mP mQ hmP hmQ).mono ?_)
  rintro e w' ⟨v, rfl, h1, hb⟩
  exact ⟨_, rfl, hb, h1⟩
set_option maxRecDepth 20000 in
set_option maxHeartbeats 2000000 in
theorem q3trim_z (w : World) (Br : Nat) (nr : Bool) (ar : Option Addr) (mr cr : Nat) (rs : List Int) (pr : Int) (Ar : Ag w nr ar mr cr rs pr) (Lr : rs.length ≤ Br) (br : Option Addr) (kr dr : Nat) (rt : List Int) (qr : Int) (Sr : Sl w (.slice br kr dr) rt) (Vr : val rt = qr) (Mr : rt.length ≤ Br) (hL : Br ≤ 10000) :
    Calls Try.prog 28 #[.agg #[.bool nr, .slice ar mr cr, .slice br kr dr]] w fun e w' => ∃ v, e = .returned v ∧ (OutR (nm (tp pr qr) (tq qr)) (dn (tp pr qr) (tq qr)) (12 * Br + 20)) v w' ∧ Below w.heap.size w w' := by
  go_enter Try.func28, Try.ntmps28
  generalize hA : (Act.mk _ _) = aa
  have hn : aa.tmps.size = 6 := by rw [← hA]; rfl
  have hd : aa.defers = [] := by rw [← hA]
  have f0 : aa.eval (.tmp 0) = .agg #[.bool nr, .slice ar mr cr, .slice br kr dr] := by rw [← hA]; rfl
  clear hA
  have HB : Below w.heap.size w w := Below.refl _ _
  have Dr : Ag w false br kr dr rt qr := ⟨Sr, Vr⟩
  refine wp_seq ?_
  refine region4 [some 1, some 2] [(fun _ _ => True), (fun _ _ => True)] [⟨R3, some 0, 0, 1, .agg #[.bool nr, .slice ar mr cr, .slice br kr dr], none, []⟩, ⟨R3, some 1, 0, 2, .agg #[.bool false, .slice none 0 0, .slice none 0 0], none, []⟩] [] (by kernel_rfl) hn rfl (by kernel_rfl) (by kernel_rfl) (by kernel_rfl) (by kernel_rfl) (by kernel_rfl) (by kernel_rfl) ⟨True.mono4, True.mono4, trivial⟩ (ok_cons R3ok (ok_cons R3ok ok_nil)) (IsOld.all (bx := [⟨R3, some 0, 0, 1, .agg #[.bool nr, .slice ar mr cr, .slice br kr dr], none, []⟩, ⟨R3, some 1, 0, 2, .agg #[.bool false, .slice none 0 0, .slice none 0 0], none, []⟩]) ⟨someNe, someNe, trivial⟩) (DisOld.all (bx := [⟨R3, some 0, 0, 1, .agg #[.bool nr, .slice ar mr cr, .slice br kr dr], none, []⟩, ⟨R3, some 1, 0, 2, .agg #[.bool false, .slice none 0 0, .slice none 0 0], none, []⟩]) ⟨someNe, someNe, trivial⟩) ?_ ?_
  · exact ⟨.alloc 0 _ rfl rfl (.inr ⟨_, rfl, r3_cs, fun a_ hR => (hR 0 rfl).trans f0⟩) rfl rfl rfl rfl rfl,
      .alloc 1 _ rfl rfl (.inl ⟨rfl, rfl⟩) rfl rfl rfl rfl rfl,
      trivial⟩
  · intro a1 w1 gs1 hn1 hd1 hBt hr hR hP hX hU
    replace hn := hn1; replace hd := hd1.trans hd
    have ne1_2 : gs1 0 ≠ gs1 1 := hU 0 1 (by simp) (by simp) (by decide)
    have b1 : BoxV R3 w1 (gs1 0) (.agg #[.bool nr, .slice ar mr cr, .slice br kr dr]) := (hX 0 _ rfl).2.2.2
    have f1 := (hX 0 _ rfl).1
    have u1 : w.heap.size ≤ gs1 0 := Nat.le_trans HB.size ((hX 0 _ rfl).2.2.1 (by simp))
    have b2 : BoxV R3 w1 (gs1 1) (.agg #[.bool false, .slice none 0 0, .slice none 0 0]) := (hX 1 _ rfl).2.2.2
    have f2 := (hX 1 _ rfl).1
    have u2 : w.heap.size ≤ gs1 1 := Nat.le_trans HB.size ((hX 1 _ rfl).2.2.1 (by simp))
    replace Ar := Ar.rl hr
    replace Sr := Sr.rl hr
    replace Dr := Dr.rl hr
    replace HB := HB.trans (hBt.below HB.size (UpOld.all (bx := [⟨R3, some 0, 0, 1, .agg #[.bool nr, .slice ar mr cr, .slice br kr dr], none, []⟩, ⟨R3, some 1, 0, 2, .agg #[.bool false, .slice none 0 0, .slice none 0 0], none, []⟩]) ⟨someNe, someNe, trivial⟩))
    clear hBt hr hR hP hX hU
    refine wp_seq ?_
    refine region4 [some 3, some 4, some 5, none] [Eqs (.agg #[.bool nr, .slice ar mr cr, .slice br kr dr]), OutQ ((nm (tp pr qr) (tq qr))) ((dn (tp pr qr) (tq qr))) (6 * (Br) + 10), OutR ((nm (tp pr qr) (tq qr))) ((dn (tp pr qr) (tq qr))) (2 * (6 * (Br) + 10)), (fun _ _ => True)] [⟨R3, none, (gs1 1), 2, .agg #[.bool false, .slice none 0 0, .slice none 0 0], some (3, 5, 2), []⟩] [] (by kernel_rfl) hn rfl (by kernel_rfl) (by kernel_rfl) (by kernel_rfl) (by kernel_rfl) (by kernel_rfl) (by kernel_rfl) ⟨Eqs.mono4 _, OutQ.mono4 _ _ _, OutR.mono4 _ _ _, True.mono4, trivial⟩ (ok_cons R3ok ok_nil) (IsOld.all (bx := [⟨R3, none, (gs1 1), 2, .agg #[.bool false, .slice none 0 0, .slice none 0 0], some (3, 5, 2), []⟩]) ⟨fun _ => ⟨f2, b2⟩, trivial⟩) (DisOld.all (bx := [⟨R3, none, (gs1 1), 2, .agg #[.bool false, .slice none 0 0, .slice none 0 0], some (3, 5, 2), []⟩]) ⟨fun _ => trivial, trivial⟩) ?_ ?_
    · exact ⟨.norm 3 rfl rfl rfl (fun a_ w_ hn_ hBt hr hR hD hO hS => op_loadv R3ok ((hR 1 rfl).trans f1) (b1.keep hBt ⟨fun _ => ne1_2.symm, trivial⟩)),
        .norm 4 rfl rfl rfl (fun a_ w_ hn_ hBt hr hR hD hO hS => op_qread (Br := Br) (isr_eq (show a_.eval (.tmp 3) = .agg #[.bool nr, .slice ar mr cr, .slice br kr dr] from hD 0 rfl) (Ar.rl hr) (Sr.rl hr) Vr Lr Mr) (by omega)),
        .norm 5 rfl rfl rfl (fun a_ w_ hn_ hBt hr hR hD hO hS => op_qtold (Bx := 6 * (Br) + 10) (show OutQ ((nm (tp pr qr) (tq qr))) ((dn (tp pr qr) (tq qr))) (6 * (Br) + 10) (a_.eval (.tmp 4)) w_ from hD 1 rfl) (by omega) (dn_pos _ (tq_ne _))),
        .store 0 _ _ _ rfl rfl rfl rfl rfl rfl rfl (fun ia h => by cases h) rfl rfl rfl OutR.cs,
        trivial⟩
    · intro a2 w2 gs2 hn2 hd2 hBt hr hR hP hX hU
      replace hn := hn2; replace hd := hd2.trans hd
      obtain ⟨n_3, a_3, c_3, r_3, b_3, d_3, s_3, e5, G3, K3, l3, k3⟩ : OutR ((nm (tp pr qr) (tq qr))) ((dn (tp pr qr) (tq qr))) (2 * (6 * (Br) + 10)) (a2.eval (.tmp 5)) w2 := hP 2 (by decide)
      have A3 := G3.ag; have S3 := K3.sl; have V3 := K3.val
      have b2 : BoxV R3 w2 ((gs1 1)) (.agg #[.bool n_3, .slice a_3 r_3.length c_3, .slice b_3 s_3.length d_3]) := boxv_old ((hX 0 _ rfl).2.1 rfl) (hX 0 _ rfl).2.2.2 e5
      replace f2 : a2.eval (.tmp 2) = _ := (hR 2 rfl).trans f2
      replace Ar := Ar.rl hr
      replace Sr := Sr.rl hr
      replace Dr := Dr.rl hr
      replace HB := HB.trans (hBt.below HB.size (UpOld.all (bx := [⟨R3, none, (gs1 1), 2, .agg #[.bool false, .slice none 0 0, .slice none 0 0], some (3, 5, 2), []⟩]) ⟨fun _ => u2, trivial⟩))
      clear hBt hr hR hP hX hU
      refine wp_ret ?_
      repeat (first | refine then_ret ?_ | refine scope_ret ?_ | refine block_ret ?_)
      exact bodyPost_ret (v := .agg #[.bool n_3, .slice a_3 r_3.length c_3, .slice b_3 s_3.length d_3]) (res_c rfl f2 (lv_R3 b2)) hd ⟨_, rfl, OutR.to (outr_eq rfl G3 K3 l3 k3) rfl rfl (by omega), HB⟩
theorem has_q3trim : Has Try.prog 28 := by unfold Has; kernel_rfl
theorem op_q3trim {dst : Option Tmp} {ty : TypeId} {pos : String} {after : Array Edge} {guard : Option (Nat × Bool)} {a : Act} {w : World} {ats : Array TypeId} {i : Nat} {Br : Nat} {pr qr : Int} (Hr : IsR pr qr Br (a.eval (.tmp i)) w) (hL : Br ≤ 10000) :
    Does Try.prog { dst, op := .call { callee := .value (.func 28), args := #[.tmp i], argTypes := ats }, type := ty, pos, after, guard } a.eval w fun v w' => Below w.heap.size w w' ∧ (OutR (nm (tp pr qr) (tq qr)) (dn (tp pr qr) (tq qr)) (12 * Br + 20)) v w' := by
  obtain ⟨nr, ar, mr, cr, rs, br, kr, dr, rt, er, Ar, Sr, Vr, Lr, Mr⟩ := Hr
  refine does_call has_q3trim _ (by simp only [List.map_toArray, List.map_cons, List.map_nil, er]) ((q3trim_z w Br _ _ _ _ _ _ Ar Lr _ _ _ _ _ Sr Vr Mr hL).mono ?_)
  rintro e w' ⟨v, rfl, h1, hb⟩
  exact ⟨_, rfl, hb, h1⟩
set_option maxRecDepth 20000 in
set_option maxHeartbeats 2000000 in
theorem q3neg_z (w : World) (Br : Nat) (nr : Bool) (ar : Option Addr) (mr cr : Nat) (rs : List Int) (pr : Int) (Ar : Ag w nr ar mr cr rs pr) (Lr : rs.length ≤ Br) (br : Option Addr) (kr dr : Nat) (rt : List Int) (qr : Int) (Sr : Sl w (.slice br kr dr) rt) (Vr : val rt = qr) (Mr : rt.length ≤ Br) (hL : Br ≤ 10000) :
    Calls Try.prog 30 #[.agg #[.bool nr, .slice ar mr cr, .slice br kr dr]] w fun e w' => ∃ v, e = .returned v ∧ (OutR (-(nm (tp pr qr) (tq qr))) (dn (tp pr qr) (tq qr)) (24 * Br + 40)) v w' ∧ Below w.heap.size w w' := by
  go_enter Try.func30, Try.ntmps30
  generalize hA : (Act.mk _ _) = aa
  have hn : aa.tmps.size = 7 := by rw [← hA]; rfl
  have hd : aa.defers = [] := by rw [← hA]
  have f0 : aa.eval (.tmp 0) = .agg #[.bool nr, .slice ar mr cr, .slice br kr dr] := by rw [← hA]; rfl
  clear hA
  have HB : Below w.heap.size w w := Below.refl _ _
  have Dr : Ag w false br kr dr rt qr := ⟨Sr, Vr⟩
  refine wp_seq ?_
  refine region4 [some 1, some 2] [(fun _ _ => True), (fun _ _ => True)] [⟨R3, some 0, 0, 1, .agg #[.bool nr, .slice ar mr cr, .slice br kr dr], none, []⟩, ⟨R3, some 1, 0, 2, .agg #[.bool false, .slice none 0 0, .slice none 0 0], none, []⟩] [] (by kernel_rfl) hn rfl (by kernel_rfl) (by kernel_rfl) (by kernel_rfl) (by kernel_rfl) (by kernel_rfl) (by kernel_rfl) ⟨True.mono4, True.mono4, trivial⟩ (ok_cons R3ok (ok_cons R3ok ok_nil)) (IsOld.all (bx := [⟨R3, some 0, 0, 1, .agg #[.bool nr, .slice ar mr cr, .slice br kr dr], none, []⟩, ⟨R3, some 1, 0, 2, .agg #[.bool false, .slice none 0 0, .slice none 0 0], none, []⟩]) ⟨someNe, someNe, trivial⟩) (DisOld.all (bx := [⟨R3, some 0, 0, 1, .agg #[.bool nr, .slice ar mr cr, .slice br kr dr], none, []⟩, ⟨R3, some 1, 0, 2, .agg #[.bool false, .slice none 0 0, .slice none 0 0], none, []⟩]) ⟨someNe, someNe, trivial⟩) ?_ ?_
  · exact ⟨.alloc 0 _ rfl rfl (.inr ⟨_, rfl, r3_cs, fun a_ hR => (hR 0 rfl).trans f0⟩) rfl rfl rfl rfl rfl,
      .alloc 1 _ rfl rfl (.inl ⟨rfl, rfl⟩) rfl rfl rfl rfl rfl,
      trivial⟩
  · intro a1 w1 gs1 hn1 hd1 hBt hr hR hP hX hU
    replace hn := hn1; replace hd := hd1.trans hd
    have ne1_2 : gs1 0 ≠ gs1 1 := hU 0 1 (by simp) (by simp) (by decide)
    have b1 : BoxV R3 w1 (gs1 0) (.agg #[.bool nr, .slice ar mr cr, .slice br kr dr]) := (hX 0 _ rfl).2.2.2
    have f1 := (hX 0 _ rfl).1
    have u1 : w.heap.size ≤ gs1 0 := Nat.le_trans HB.size ((hX 0 _ rfl).2.2.1 (by simp))
    have b2 : BoxV R3 w1 (gs1 1) (.agg #[.bool false, .slice none 0 0, .slice none 0 0]) := (hX 1 _ rfl).2.2.2
    have f2 := (hX 1 _ rfl).1
    have u2 : w.heap.size ≤ gs1 1 := Nat.le_trans HB.size ((hX 1 _ rfl).2.2.1 (by simp))
    replace Ar := Ar.rl hr
    replace Sr := Sr.rl hr
    replace Dr := Dr.rl hr
    replace HB := HB.trans (hBt.below HB.size (UpOld.all (bx := [⟨R3, some 0, 0, 1, .agg #[.bool nr, .slice ar mr cr, .slice br kr dr], none, []⟩, ⟨R3, some 1, 0, 2, .agg #[.bool false, .slice none 0 0, .slice none 0 0], none, []⟩]) ⟨someNe, someNe, trivial⟩))
    clear hBt hr hR hP hX hU
    refine wp_seq ?_
    refine region4 [some 3, some 4, some 5, some 6, none] [Eqs (.agg #[.bool nr, .slice ar mr cr, .slice br kr dr]), OutQ ((nm (tp pr qr) (tq qr))) ((dn (tp pr qr) (tq qr))) (6 * (Br) + 10), OutQ ((-(nm (tp pr qr) (tq qr)))) ((dn (tp pr qr) (tq qr))) (2 * (6 * (Br) + 10)), OutR ((-(nm (tp pr qr) (tq qr)))) ((dn (tp pr qr) (tq qr))) (2 * (2 * (6 * (Br) + 10))), (fun _ _ => True)] [⟨R3, none, (gs1 1), 2, .agg #[.bool false, .slice none 0 0, .slice none 0 0], some (4, 6, 3), []⟩] [] (by kernel_rfl) hn rfl (by kernel_rfl) (by kernel_rfl) (by kernel_rfl) (by kernel_rfl) (by kernel_rfl) (by kernel_rfl) ⟨Eqs.mono4 _, OutQ.mono4 _ _ _, OutQ.mono4 _ _ _, OutR.mono4 _ _ _, True.mono4, trivial⟩ (ok_cons R3ok ok_nil) (IsOld.all (bx := [⟨R3, none, (gs1 1), 2, .agg #[.bool false, .slice none 0 0, .slice none 0 0], some (4, 6, 3), []⟩]) ⟨fun _ => ⟨f2, b2⟩, trivial⟩) (DisOld.all (bx := [⟨R3, none, (gs1 1), 2, .agg #[.bool false, .slice none 0 0, .slice none 0 0], some (4, 6, 3), []⟩]) ⟨fun _ => trivial, trivial⟩) ?_ ?_
    · exact ⟨.norm 3 rfl rfl rfl (fun a_ w_ hn_ hBt hr hR hD hO hS => op_loadv R3ok ((hR 1 rfl).trans f1) (b1.keep hBt ⟨fun _ => ne1_2.symm, trivial⟩)),
        .norm 4 rfl rfl rfl (fun a_ w_ hn_ hBt hr hR hD hO hS => op_qread (Br := Br) (isr_eq (show a_.eval (.tmp 3) = .agg #[.bool nr, .slice ar mr cr, .slice br kr dr] from hD 0 rfl) (Ar.rl hr) (Sr.rl hr) Vr Lr Mr) (by omega)),
        .norm 5 rfl rfl rfl (fun a_ w_ hn_ hBt hr hR hD hO hS => op_qminus (Bx := 6 * (Br) + 10) (show OutQ ((nm (tp pr qr) (tq qr))) ((dn (tp pr qr) (tq qr))) (6 * (Br) + 10) (a_.eval (.tmp 4)) w_ from hD 1 rfl) (by omega)),
        .norm 6 rfl rfl rfl (fun a_ w_ hn_ hBt hr hR hD hO hS => op_qtold (Bx := 2 * (6 * (Br) + 10)) (show OutQ ((-(nm (tp pr qr) (tq qr)))) ((dn (tp pr qr) (tq qr))) (2 * (6 * (Br) + 10)) (a_.eval (.tmp 5)) w_ from hD 2 rfl) (by omega) (dn_pos _ (tq_ne _))),
        .store 0 _ _ _ rfl rfl rfl rfl rfl rfl rfl (fun ia h => by cases h) rfl rfl rfl OutR.cs,
        trivial⟩
    · intro a2 w2 gs2 hn2 hd2 hBt hr hR hP hX hU
      replace hn := hn2; replace hd := hd2.trans hd
      obtain ⟨n_3, a_3, c_3, r_3, b_3, d_3, s_3, e6, G3, K3, l3, k3⟩ : OutR ((-(nm (tp pr qr) (tq qr)))) ((dn (tp pr qr) (tq qr))) (2 * (2 * (6 * (Br) + 10))) (a2.eval (.tmp 6)) w2 := hP 3 (by decide)
      have A3 := G3.ag; have S3 := K3.sl; have V3 := K3.val
      have b2 : BoxV R3 w2 ((gs1 1)) (.agg #[.bool n_3, .slice a_3 r_3.length c_3, .slice b_3 s_3.length d_3]) := boxv_old ((hX 0 _ rfl).2.1 rfl) (hX 0 _ rfl).2.2.2 e6
      replace f2 : a2.eval (.tmp 2) = _ := (hR 2 rfl).trans f2
      replace Ar := Ar.rl hr
      replace Sr := Sr.rl hr
      replace Dr := Dr.rl hr
      replace HB := HB.trans (hBt.below HB.size (UpOld.all (bx := [⟨R3, none, (gs1 1), 2, .agg #[.bool false, .slice none 0 0, .slice none 0 0], some (4, 6, 3), []⟩]) ⟨fun _ => u2, trivial⟩))
      clear hBt hr hR hP hX hU
      refine wp_ret ?_
      repeat (first | refine then_ret ?_ | refine scope_ret ?_ | refine block_ret ?_)
      exact bodyPost_ret (v := .agg #[.bool n_3, .slice a_3 r_3.length c_3, .slice b_3 s_3.length d_3]) (res_c rfl f2 (lv_R3 b2)) hd ⟨_, rfl, OutR.to (outr_eq rfl G3 K3 l3 k3) rfl rfl (by omega), HB⟩
theorem has_q3neg : Has Try.prog 30 := by unfold Has; kernel_rfl
theorem op_q3neg {dst : Option Tmp} {ty : TypeId} {pos : String} {after : Array Edge} {guard : Option (Nat × Bool)} {a : Act} {w : World} {ats : Array TypeId} {i : Nat} {Br : Nat} {pr qr : Int} (Hr : IsR pr qr Br (a.eval (.tmp i)) w) (hL : Br ≤ 10000) :
    Does Try.prog { dst, op := .call { callee := .value (.func 30), args := #[.tmp i], argTypes := ats }, type := ty, pos, after, guard } a.eval w fun v w' => Below w.heap.size w w' ∧ (OutR (-(nm (tp pr qr) (tq qr))) (dn (tp pr qr) (tq qr)) (24 * Br + 40)) v w' := by
  obtain ⟨nr, ar, mr, cr, rs, br, kr, dr, rt, er, Ar, Sr, Vr, Lr, Mr⟩ := Hr
  refine does_call has_q3neg _ (by simp only [List.map_toArray, List.map_cons, List.map_nil, er]) ((q3neg_z w Br _ _ _ _ _ _ Ar Lr _ _ _ _ _ Sr Vr Mr hL).mono ?_)
  rintro e w' ⟨v, rfl, h1, hb⟩
  exact ⟨_, rfl, hb, h1⟩
set_option maxRecDepth 20000 in
set_option maxHeartbeats 2000000 in
theorem q3sign_z (w : World) (Br : Nat) (nr : Bool) (ar : Option Addr) (mr cr : Nat) (rs : List Int) (pr : Int) (Ar : Ag w nr ar mr cr rs pr) (Lr : rs.length ≤ Br) (br : Option Addr) (kr dr : Nat) (rt : List Int) (qr : Int) (Sr : Sl w (.slice br kr dr) rt) (Vr : val rt = qr) (Mr : rt.length ≤ Br) (hL : Br ≤ 10000) :
    Calls Try.prog 25 #[.agg #[.bool nr, .slice ar mr cr, .slice br kr dr]] w fun e w' => ∃ v, e = .returned v ∧ (Eqs (.int .i64 (Int.sign (nm (tp pr qr) (tq qr))))) v w' ∧ Below w.heap.size w w' := by
  go_enter Try.func25, Try.ntmps25
  generalize hA : (Act.mk _ _) = aa
  have hn : aa.tmps.size = 7 := by rw [← hA]; rfl
  have hd : aa.defers = [] := by rw [← hA]
  have f0 : aa.eval (.tmp 0) = .agg #[.bool nr, .slice ar mr cr, .slice br kr dr] := by rw [← hA]; rfl
  clear hA
  have HB : Below w.heap.size w w := Below.refl _ _
  have Dr : Ag w false br kr dr rt qr := ⟨Sr, Vr⟩
  refine wp_seq ?_
  refine region4 [some 1, some 2] [(fun _ _ => True), Eqs ((.int .i64 0))] [⟨R3, some 0, 0, 1, .agg #[.bool nr, .slice ar mr cr, .slice br kr dr], none, []⟩] [] (by kernel_rfl) hn rfl (by kernel_rfl) (by kernel_rfl) (by kernel_rfl) (by kernel_rfl) (by kernel_rfl) (by kernel_rfl) ⟨True.mono4, Eqs.mono4 _, trivial⟩ (ok_cons R3ok ok_nil) (IsOld.all (bx := [⟨R3, some 0, 0, 1, .agg #[.bool nr, .slice ar mr cr, .slice br kr dr], none, []⟩]) ⟨someNe, trivial⟩) (DisOld.all (bx := [⟨R3, some 0, 0, 1, .agg #[.bool nr, .slice ar mr cr, .slice br kr dr], none, []⟩]) ⟨someNe, trivial⟩) ?_ ?_
  · exact ⟨.alloc 0 _ rfl rfl (.inr ⟨_, rfl, r3_cs, fun a_ hR => (hR 0 rfl).trans f0⟩) rfl rfl rfl rfl rfl,
      .norm 2 rfl rfl rfl (fun a_ w_ hn_ hBt hr hR hD hO hS => op_assign rfl),
      trivial⟩
  · intro a1 w1 gs1 hn1 hd1 hBt hr hR hP hX hU
    replace hn := hn1; replace hd := hd1.trans hd
    have b1 : BoxV R3 w1 (gs1 0) (.agg #[.bool nr, .slice ar mr cr, .slice br kr dr]) := (hX 0 _ rfl).2.2.2
    have f1 := (hX 0 _ rfl).1
    have u1 : w.heap.size ≤ gs1 0 := Nat.le_trans HB.size ((hX 0 _ rfl).2.2.1 (by simp))
    have e2 : a1.eval (.tmp 2) = (.int .i64 0) := hP 1 (by decide)
    have f2 := e2
    replace Ar := Ar.rl hr
    replace Sr := Sr.rl hr
    replace Dr := Dr.rl hr
    replace HB := HB.trans (hBt.below HB.size (UpOld.all (bx := [⟨R3, some 0, 0, 1, .agg #[.bool nr, .slice ar mr cr, .slice br kr dr], none, []⟩]) ⟨someNe, trivial⟩))
    clear hBt hr hR hP hX hU
    refine wp_seq ?_
    refine region4 [some 3, some 4, some 5, some 6, some 2] [Eqs (.agg #[.bool nr, .slice ar mr cr, .slice br kr dr]), OutQ ((nm (tp pr qr) (tq qr))) ((dn (tp pr qr) (tq qr))) (6 * (Br) + 10), OutN ((nm (tp pr qr) (tq qr))) (6 * (Br) + 10), Eqs (.int .i64 (Int.sign (nm (tp pr qr) (tq qr)))), Eqs (.int .i64 (Int.sign (nm (tp pr qr) (tq qr))))] [] [] (by kernel_rfl) hn rfl (by kernel_rfl) (by kernel_rfl) (by kernel_rfl) (by kernel_rfl) (by kernel_rfl) (by kernel_rfl) ⟨Eqs.mono4 _, OutQ.mono4 _ _ _, OutN.mono4 _ _, Eqs.mono4 _, Eqs.mono4 _, trivial⟩ ok_nil (IsOld.all (bx := []) trivial) (DisOld.all (bx := []) trivial) ?_ ?_
    · exact ⟨.norm 3 rfl rfl rfl (fun a_ w_ hn_ hBt hr hR hD hO hS => op_loadv R3ok ((hR 1 rfl).trans f1) (b1.keep hBt trivial)),
        .norm 4 rfl rfl rfl (fun a_ w_ hn_ hBt hr hR hD hO hS => op_qread (Br := Br) (isr_eq (show a_.eval (.tmp 3) = .agg #[.bool nr, .slice ar mr cr, .slice br kr dr] from hD 0 rfl) (Ar.rl hr) (Sr.rl hr) Vr Lr Mr) (by omega)),
        .norm 5 rfl rfl rfl (fun a_ w_ hn_ hBt hr hR hD hO hS => op_qf0 (show OutQ ((nm (tp pr qr) (tq qr))) ((dn (tp pr qr) (tq qr))) (6 * (Br) + 10) (a_.eval (.tmp 4)) w_ from hD 1 rfl)),
        .norm 6 rfl rfl rfl (fun a_ w_ hn_ hBt hr hR hD hO hS => op_nsign (show OutN ((nm (tp pr qr) (tq qr))) (6 * (Br) + 10) (a_.eval (.tmp 5)) w_ from hD 2 rfl)),
        .norm 2 rfl rfl rfl (fun a_ w_ hn_ hBt hr hR hD hO hS => op_assign (show a_.eval (.tmp 6) = .int .i64 (Int.sign (nm (tp pr qr) (tq qr))) from hD 3 rfl)),
        trivial⟩
    · intro a2 w2 gs2 hn2 hd2 hBt hr hR hP hX hU
      replace hn := hn2; replace hd := hd2.trans hd
      have e2 : a2.eval (.tmp 2) = .int .i64 (Int.sign (nm (tp pr qr) (tq qr))) := hP 4 (by decide)
      have f2 := e2
      replace Ar := Ar.rl hr
      replace Sr := Sr.rl hr
      replace Dr := Dr.rl hr
      replace HB := HB.trans (hBt.below HB.size (UpOld.all (bx := []) trivial))
      clear hBt hr hR hP hX hU
      refine wp_ret ?_
      repeat (first | refine then_ret ?_ | refine scope_ret ?_ | refine block_ret ?_)
      exact bodyPost_ret (v := .int .i64 (Int.sign (nm (tp pr qr) (tq qr)))) (res_t rfl f2) hd ⟨_, rfl, rfl, HB⟩
theorem has_q3sign : Has Try.prog 25 := by unfold Has; kernel_rfl
theorem op_q3sign {dst : Option Tmp} {ty : TypeId} {pos : String} {after : Array Edge} {guard : Option (Nat × Bool)} {a : Act} {w : World} {ats : Array TypeId} {i : Nat} {Br : Nat} {pr qr : Int} (Hr : IsR pr qr Br (a.eval (.tmp i)) w) (hL : Br ≤ 10000) :
    Does Try.prog { dst, op := .call { callee := .value (.func 25), args := #[.tmp i], argTypes := ats }, type := ty, pos, after, guard } a.eval w fun v w' => Below w.heap.size w w' ∧ (Eqs (.int .i64 (Int.sign (nm (tp pr qr) (tq qr))))) v w' := by
  obtain ⟨nr, ar, mr, cr, rs, br, kr, dr, rt, er, Ar, Sr, Vr, Lr, Mr⟩ := Hr
  refine does_call has_q3sign _ (by simp only [List.map_toArray, List.map_cons, List.map_nil, er]) ((q3sign_z w Br _ _ _ _ _ _ Ar Lr _ _ _ _ _ Sr Vr Mr hL).mono ?_)
  rintro e w' ⟨v, rfl, h1, hb⟩
  exact ⟨_, rfl, hb, h1⟩
set_option maxRecDepth 20000 in
set_option maxHeartbeats 2000000 in
theorem q3limbs_z (w : World) (Br : Nat) (nr : Bool) (ar : Option Addr) (mr cr : Nat) (rs : List Int) (pr : Int) (Ar : Ag w nr ar mr cr rs pr) (Lr : rs.length ≤ Br) (br : Option Addr) (kr dr : Nat) (rt : List Int) (qr : Int) (Sr : Sl w (.slice br kr dr) rt) (Vr : val rt = qr) (Mr : rt.length ≤ Br) (hL : Br ≤ 10000) (mP mQ : Nat) (hmP : IsLen ((((nm (tp pr qr) (tq qr)) : Int)).natAbs : Int) mP) (hmQ : IsLen ((((dn (tp pr qr) (tq qr)) : Int)).natAbs : Int) mQ) :
    Calls Try.prog 26 #[.agg #[.bool nr, .slice ar mr cr, .slice br kr dr]] w fun e w' => ∃ v, e = .returned v ∧ (Eqs (.int .i64 ((max mP mQ : Nat) : Int))) v w' ∧ Below w.heap.size w w' := by
  go_enter Try.func26, Try.ntmps26
  generalize hA : (Act.mk _ _) = aa
  have hn : aa.tmps.size = 6 := by rw [← hA]; rfl
  have hd : aa.defers = [] := by rw [← hA]
  have f0 : aa.eval (.tmp 0) = .agg #[.bool nr, .slice ar mr cr, .slice br kr dr] := by rw [← hA]; rfl
  clear hA
  have HB : Below w.heap.size w w := Below.refl _ _
  have Dr : Ag w false br kr dr rt qr := ⟨Sr, Vr⟩
  refine wp_seq ?_
  refine region4 [some 1, some 2] [(fun _ _ => True), Eqs ((.int .i64 0))] [⟨R3, some 0, 0, 1, .agg #[.bool nr, .slice ar mr cr, .slice br kr dr], none, []⟩] [] (by kernel_rfl) hn rfl (by kernel_rfl) (by kernel_rfl) (by kernel_rfl) (by kernel_rfl) (by kernel_rfl) (by kernel_rfl) ⟨True.mono4, Eqs.mono4 _, trivial⟩ (ok_cons R3ok ok_nil) (IsOld.all (bx := [⟨R3, some 0, 0, 1, .agg #[.bool nr, .slice ar mr cr, .slice br kr dr], none, []⟩]) ⟨someNe, trivial⟩) (DisOld.all (bx := [⟨R3, some 0, 0, 1, .agg #[.bool nr, .slice ar mr cr, .slice br kr dr], none, []⟩]) ⟨someNe, trivial⟩) ?_ ?_
  · exact ⟨.alloc 0 _ rfl rfl (.inr ⟨_, rfl, r3_cs, fun a_ hR => (hR 0 rfl).trans f0⟩) rfl rfl rfl rfl rfl,
      .norm 2 rfl rfl rfl (fun a_ w_ hn_ hBt hr hR hD hO hS => op_assign rfl),
      trivial⟩
  · intro a1 w1 gs1 hn1 hd1 hBt hr hR hP hX hU
    replace hn := hn1; replace hd := hd1.trans hd
    have b1 : BoxV R3 w1 (gs1 0) (.agg #[.bool nr, .slice ar mr cr, .slice br kr dr]) := (hX 0 _ rfl).2.2.2
    have f1 := (hX 0 _ rfl).1
    have u1 : w.heap.size ≤ gs1 0 := Nat.le_trans HB.size ((hX 0 _ rfl).2.2.1 (by simp))
    have e2 : a1.eval (.tmp 2) = (.int .i64 0) := hP 1 (by decide)
    have f2 := e2
    replace Ar := Ar.rl hr
    replace Sr := Sr.rl hr
    replace Dr := Dr.rl hr
    replace HB := HB.trans (hBt.below HB.size (UpOld.all (bx := [⟨R3, some 0, 0, 1, .agg #[.bool nr, .slice ar mr cr, .slice br kr dr], none, []⟩]) ⟨someNe, trivial⟩))
    clear hBt hr hR hP hX hU
    refine wp_seq ?_
    refine region4 [some 3, some 4, some 5, some 2] [Eqs (.agg #[.bool nr, .slice ar mr cr, .slice br kr dr]), OutQ ((nm (tp pr qr) (tq qr))) ((dn (tp pr qr) (tq qr))) (6 * (Br) + 10), Eqs (.int .i64 ((max mP mQ : Nat) : Int)), Eqs (.int .i64 ((max mP mQ : Nat) : Int))] [] [] (by kernel_rfl) hn rfl (by kernel_rfl) (by kernel_rfl) (by kernel_rfl) (by kernel_rfl) (by kernel_rfl) (by kernel_rfl) ⟨Eqs.mono4 _, OutQ.mono4 _ _ _, Eqs.mono4 _, Eqs.mono4 _, trivial⟩ ok_nil (IsOld.all (bx := []) trivial) (DisOld.all (bx := []) trivial) ?_ ?_
    · exact ⟨.norm 3 rfl rfl rfl (fun a_ w_ hn_ hBt hr hR hD hO hS => op_loadv R3ok ((hR 1 rfl).trans f1) (b1.keep hBt trivial)),
        .norm 4 rfl rfl rfl (fun a_ w_ hn_ hBt hr hR hD hO hS => op_qread (Br := Br) (isr_eq (show a_.eval (.tmp 3) = .agg #[.bool nr, .slice ar mr cr, .slice br kr dr] from hD 0 rfl) (Ar.rl hr) (Sr.rl hr) Vr Lr Mr) (by omega)),
        .norm 5 rfl rfl rfl (fun a_ w_ hn_ hBt hr hR hD hO hS => op_qlong (Bx := 6 * (Br) + 10) (show OutQ ((nm (tp pr qr) (tq qr))) ((dn (tp pr qr) (tq qr))) (6 * (Br) + 10) (a_.eval (.tmp 4)) w_ from hD 1 rfl) (by omega) mP mQ hmP hmQ),
        .norm 2 rfl rfl rfl (fun a_ w_ hn_ hBt hr hR hD hO hS => op_assign (show a_.eval (.tmp 5) = .int .i64 ((max mP mQ : Nat) : Int) from hD 2 rfl)),
        trivial⟩
    · intro a2 w2 gs2 hn2 hd2 hBt hr hR hP hX hU
      replace hn := hn2; replace hd := hd2.trans hd
      have e2 : a2.eval (.tmp 2) = .int .i64 ((max mP mQ : Nat) : Int) := hP 3 (by decide)
      have f2 := e2
      replace Ar := Ar.rl hr
      replace Sr := Sr.rl hr
      replace Dr := Dr.rl hr
      replace HB := HB.trans (hBt.below HB.size (UpOld.all (bx := []) trivial))
      clear hBt hr hR hP hX hU
      refine wp_ret ?_
      repeat (first | refine then_ret ?_ | refine scope_ret ?_ | refine block_ret ?_)
      exact bodyPost_ret (v := .int .i64 ((max mP mQ : Nat) : Int)) (res_t rfl f2) hd ⟨_, rfl, rfl, HB⟩
theorem has_q3limbs : Has Try.prog 26 := by unfold Has; kernel_rfl
theorem op_q3limbs {dst : Option Tmp} {ty : TypeId} {pos : String} {after : Array Edge} {guard : Option (Nat × Bool)} {a : Act} {w : World} {ats : Array TypeId} {i : Nat} {Br : Nat} {pr qr : Int} (Hr : IsR pr qr Br (a.eval (.tmp i)) w) (hL : Br ≤ 10000) (mP mQ : Nat) (hmP : IsLen ((((nm (tp pr qr) (tq qr)) : Int)).natAbs : Int) mP) (hmQ : IsLen ((((dn (tp pr qr) (tq qr)) : Int)).natAbs : Int) mQ) :
    Does Try.prog { dst, op := .call { callee := .value (.func 26), args := #[.tmp i], argTypes := ats }, type := ty, pos, after, guard } a.eval w fun v w' => Below w.heap.size w w' ∧ (Eqs (.int .i64 ((max mP mQ : Nat) : Int))) v w' := by
  obtain ⟨nr, ar, mr, cr, rs, br, kr, dr, rt, er, Ar, Sr, Vr, Lr, Mr⟩ := Hr
  refine does_call has_q3limbs _ (by simp only [List.map_toArray, List.map_cons, List.map_nil, er]) ((q3limbs_z w Br _ _ _ _ _ _ Ar Lr _ _ _ _ _ Sr Vr Mr hL mP mQ hmP hmQ).mono ?_)
  rintro e w' ⟨v, rfl, h1, hb⟩
  exact ⟨_, rfl, hb, h1⟩
end Lm
end Go.Proofs.Ytpofkigboedliaa

namespace Go.Proofs.Ytpofkigboedliaa
namespace Lm
open Go Go.RowKit
set_option maxRecDepth 20000 in
set_option maxHeartbeats 2000000 in
theorem lowest_F (w : World) (L : Nat) (hL : L ≤ 100000) (nx : Bool) (ax : Option Addr) (mx cx : Nat) (xs : List Int) (zx : Int) (Ax : Ag w nx ax mx cx xs zx) (Lx : xs.length ≤ L) (ny : Bool) (ay : Option Addr) (my cy : Nat) (ys : List Int) (zy : Int) (Ay : Ag w ny ay my cy ys zy) (Ly : ys.length ≤ L) (hy : zy ≠ 0) :
    Calls Try.prog 46 #[.agg #[.bool nx, .slice ax mx cx], .agg #[.bool ny, .slice ay my cy]] w fun e w' => ∃ v, e = .returned v ∧ FrR w.heap.size (nm zx zy) (dn zx zy) L v w' ∧ Below w.heap.size w w' := by
  have hx0 : 0 ≤ val xs := (val_bounds Ax.sl.parts.2.2.2).1
  have hy0 : 0 < val ys := by
    have h1 := (val_bounds Ay.sl.parts.2.2.2).1
    have h2 : val ys ≠ 0 := fun e => hy (by rw [← Ay.worth, e]; cases ny <;> simp [sg])
    omega
  go_enter Try.func46, Try.ntmps46
  generalize hA : (Act.mk _ _) = aa
  have hn : aa.tmps.size = 51 := by rw [← hA]; rfl
  have hd : aa.defers = [] := by rw [← hA]
  have f0 : aa.eval (.tmp 0) = .agg #[.bool nx, .slice ax mx cx] := by rw [← hA]; rfl
  have f1 : aa.eval (.tmp 1) = .agg #[.bool ny, .slice ay my cy] := by rw [← hA]; rfl
  clear hA
  have HB : Below w.heap.size w w := Below.refl _ _
  have Tx := Ax.sl; have Ty := Ay.sl; have hwx := Ax.worth; have hwy := Ay.worth
  refine wp_seq ?_
  refine region4 [some 2, some 3, some 4] [(fun _ _ => True), (fun _ _ => True), (fun _ _ => True)] [⟨W2, some 0, 0, 2, .agg #[.bool nx, .slice ax mx cx], none, []⟩, ⟨W2, some 1, 0, 3, .agg #[.bool ny, .slice ay my cy], none, []⟩, ⟨R3, some 2, 0, 4, .agg #[.bool false, .slice none 0 0, .slice none 0 0], none, []⟩] [] (by kernel_rfl) hn rfl (by kernel_rfl) (by kernel_rfl) (by kernel_rfl) (by kernel_rfl) (by kernel_rfl) (by kernel_rfl) ⟨True.mono4, True.mono4, True.mono4, trivial⟩ (ok_cons W2ok (ok_cons W2ok (ok_cons R3ok ok_nil))) (IsOld.all (bx := [⟨W2, some 0, 0, 2, .agg #[.bool nx, .slice ax mx cx], none, []⟩, ⟨W2, some 1, 0, 3, .agg #[.bool ny, .slice ay my cy], none, []⟩, ⟨R3, some 2, 0, 4, .agg #[.bool false, .slice none 0 0, .slice none 0 0], none, []⟩]) ⟨someNe, someNe, someNe, trivial⟩) (DisOld.all (bx := [⟨W2, some 0, 0, 2, .agg #[.bool nx, .slice ax mx cx], none, []⟩, ⟨W2, some 1, 0, 3, .agg #[.bool ny, .slice ay my cy], none, []⟩, ⟨R3, some 2, 0, 4, .agg #[.bool false, .slice none 0 0, .slice none 0 0], none, []⟩]) ⟨someNe, someNe, someNe, trivial⟩) ?_ ?_
  · exact ⟨.alloc 0 _ rfl rfl (.inr ⟨_, rfl, w2_cs, fun a_ hR => (hR 0 rfl).trans f0⟩) rfl rfl rfl rfl rfl,
      .alloc 1 _ rfl rfl (.inr ⟨_, rfl, w2_cs, fun a_ hR => (hR 1 rfl).trans f1⟩) rfl rfl rfl rfl rfl,
      .alloc 2 _ rfl rfl (.inl ⟨rfl, rfl⟩) rfl rfl rfl rfl rfl,
      trivial⟩
  · intro a1 w1 gs1 hn1 hd1 hBt hr hR hP hX hU
    replace hn := hn1; replace hd := hd1.trans hd
    have ne2_4 : gs1 0 ≠ gs1 2 := hU 0 2 (by simp) (by simp) (by decide)
    have ne3_4 : gs1 1 ≠ gs1 2 := hU 1 2 (by simp) (by simp) (by decide)
    have b2 : BoxV W2 w1 (gs1 0) (.agg #[.bool nx, .slice ax mx cx]) := (hX 0 _ rfl).2.2.2
    have f2 := (hX 0 _ rfl).1
    have u2 : w.heap.size ≤ gs1 0 := Nat.le_trans HB.size ((hX 0 _ rfl).2.2.1 (by simp))
    have b3 : BoxV W2 w1 (gs1 1) (.agg #[.bool ny, .slice ay my cy]) := (hX 1 _ rfl).2.2.2
    have f3 := (hX 1 _ rfl).1
    have u3 : w.heap.size ≤ gs1 1 := Nat.le_trans HB.size ((hX 1 _ rfl).2.2.1 (by simp))
    have b4 : BoxV R3 w1 (gs1 2) (.agg #[.bool false, .slice none 0 0, .slice none 0 0]) := (hX 2 _ rfl).2.2.2
    have f4 := (hX 2 _ rfl).1
    have u4 : w.heap.size ≤ gs1 2 := Nat.le_trans HB.size ((hX 2 _ rfl).2.2.1 (by simp))
    replace Ax := Ax.rl hr
    replace Tx := Tx.rl hr
    replace Ay := Ay.rl hr
    replace Ty := Ty.rl hr
    replace HB := HB.trans (hBt.below HB.size (UpOld.all (bx := [⟨W2, some 0, 0, 2, .agg #[.bool nx, .slice ax mx cx], none, []⟩, ⟨W2, some 1, 0, 3, .agg #[.bool ny, .slice ay my cy], none, []⟩, ⟨R3, some 2, 0, 4, .agg #[.bool false, .slice none 0 0, .slice none 0 0], none, []⟩]) ⟨someNe, someNe, someNe, trivial⟩))
    clear hBt hr hR hP hX hU
    refine wp_scope_straight ?_
    refine wp_seq ?_
    refine wp_of_good (by kernel_rfl) (by kernel_rfl) (fun w_0 hb_0 => ?_)
    replace b2 := b2.below hb_0
    replace b3 := b3.below hb_0
    replace b4 := b4.below hb_0
    replace Ax := Ax.below hb_0
    replace Tx := Tx.below hb_0
    replace Ay := Ay.below hb_0
    replace Ty := Ty.below hb_0
    replace HB := HB.trans (hb_0.mono HB.size); clear hb_0; have hwb_ := HB.size
    refine good6 0 8 none [some 9, some 10, some 11, some 12, some 13, some 14, some 5, some 6] [Eqs (.pointer (some ⟨gs1 0, 1, none⟩)), Eqs (.slice ax mx cx), OutL ((val xs)) (L), Eqs (.pointer (some ⟨gs1 1, 1, none⟩)), Eqs (.slice ay my cy), OutL ((val ys)) (L), (fun _ _ => True), (fun _ _ => True)] [TrI, TrI, OwnLI ((val xs)) (L), TrI, TrI, OwnLI ((val ys)) (L), TrI, TrI] [(6, 2, fun v u => u = v), (7, 5, fun v u => u = v)] [] [] [] (by kernel_rfl) hn rfl (by kernel_rfl) (by kernel_rfl) (by kernel_rfl) (by kernel_rfl) (by kernel_rfl) (by kernel_rfl) (by kernel_rfl) (by kernel_rfl) (by kernel_rfl) (by decide) ⟨Eqs.mono5 _, Eqs.mono5 _, OutL.mono5 _ _, Eqs.mono5 _, Eqs.mono5 _, OutL.mono5 _ _, True.mono5, True.mono5, trivial⟩ ⟨TrI.mono6, TrI.mono6, OwnLI.mono6 _ _, TrI.mono6, TrI.mono6, OwnLI.mono6 _ _, TrI.mono6, TrI.mono6, trivial⟩ xok_nil ok_nil (IsOld.all (bx := []) trivial) (DisOld.all (bx := []) trivial) trivial ?_ ?_ ?_
    · exact ⟨.inr (.norm 9 rfl rfl (nxt rfl) rfl (fun a_ w_ hn_ hBt hr hR hD hO hS => d6 rfl (op_fa fa_mag ((hR 2 rfl).trans f2)))),
        .inr (.norm 10 rfl rfl (nxt rfl) rfl (fun a_ w_ hn_ hBt hr hR hD hO hS => d6 rfl (op_ldmag (show a_.eval (.tmp 9) = .pointer (some ⟨gs1 0, 1, none⟩) from hD 0 rfl) (b2.keep5 hBt trivial trivial)))),
        .inr (.norm 11 rfl rfl (nxt rfl) rfl (fun a_ w_ hn_ hBt hr hR hD hO hS => d6q (fun _ _ _ _ h => h.out) rfl (op_ltrimO (isl_eq (show a_.eval (.tmp 10) = .slice ax mx cx from hD 1 rfl) (Tx.ru hr) rfl Lx) (by omega)))),
        .inr (.norm 12 rfl rfl (nxt rfl) rfl (fun a_ w_ hn_ hBt hr hR hD hO hS => d6 rfl (op_fa fa_mag ((hR 3 rfl).trans f3)))),
        .inr (.norm 13 rfl rfl (nxt rfl) rfl (fun a_ w_ hn_ hBt hr hR hD hO hS => d6 rfl (op_ldmag (show a_.eval (.tmp 12) = .pointer (some ⟨gs1 1, 1, none⟩) from hD 3 rfl) (b3.keep5 hBt trivial trivial)))),
        .inr (.norm 14 rfl rfl (nxt rfl) rfl (fun a_ w_ hn_ hBt hr hR hD hO hS => d6q (fun _ _ _ _ h => h.out) rfl (op_ltrimO (isl_eq (show a_.eval (.tmp 13) = .slice ay my cy from hD 4 rfl) (Ty.ru hr) rfl Ly) (by omega)))),
        .inr (.norm 5 rfl rfl (nxt rfl) rfl (fun a_ w_ hn_ hBt hr hR hD hO hS => op_asr (fun v_ hv_ r_ hr_ e_ => by simp only [List.mem_cons, List.not_mem_nil, or_false] at hr_; rcases hr_ with rfl | rfl <;> first | exact hv_ | exact absurd e_ (by decide)))),
        .inr (.norm 6 rfl rfl (nxt rfl) rfl (fun a_ w_ hn_ hBt hr hR hD hO hS => op_asr (fun v_ hv_ r_ hr_ e_ => by simp only [List.mem_cons, List.not_mem_nil, or_false] at hr_; rcases hr_ with rfl | rfl <;> first | exact hv_ | exact absurd e_ (by decide)))),
        trivial⟩
    · exact fun _ _ h => by cases h
    · intro _ a2 w2 gs2 B2 T2 F_
      obtain ⟨hn2, hd2, hBt, hr, hR, hP, hTs, hLi, hX, hU, hRel, hSl⟩ := F_
      replace hn := hn2; replace hd := hd2.trans hd
      replace b2 := b2.keep5 hBt trivial trivial
      replace b3 := b3.keep5 hBt trivial trivial
      replace b4 := b4.keep5 hBt trivial trivial
      replace f2 := (hR 2 rfl).trans f2
      replace f3 := (hR 3 rfl).trans f3
      replace f4 := (hR 4 rfl).trans f4
      obtain ⟨lb4, lm4, lt4, ⟨a_4, c_4, r_4, e11', F4, l4⟩, lj4⟩ := hLi 2 (by decide) (by decide)
      have e11 : a2.eval (.tmp 11) = .slice a_4 r_4.length c_4 := e11'
      have K4 := F4.got; have S4 := K4.sl; have V4 := K4.val
      have HT4 : SzGe (T2 2) w2 := lt4
      have e5 : a2.eval (.tmp 5) = .slice a_4 r_4.length c_4 := (show a2.eval (.tmp 5) = a2.eval (.tmp 11) from hRel (6, 2, fun v u => u = v) (by simp) (show 0 ≤ 6 by decide) (show 6 < 8 by decide)).trans e11
      have f5 := e5
      obtain ⟨lb6, lm6, lt6, ⟨a_6, c_6, r_6, e14', F6, l6⟩, lj6⟩ := hLi 5 (by decide) (by decide)
      have e14 : a2.eval (.tmp 14) = .slice a_6 r_6.length c_6 := e14'
      have K6 := F6.got; have S6 := K6.sl; have V6 := K6.val
      have HT6 : SzGe (T2 5) w2 := lt6
      have e6 : a2.eval (.tmp 6) = .slice a_6 r_6.length c_6 := (show a2.eval (.tmp 6) = a2.eval (.tmp 14) from hRel (7, 5, fun v u => u = v) (by simp) (show 0 ≤ 7 by decide) (show 7 < 8 by decide)).trans e14
      have f6 := e6
      replace Ax := Ax.ru hr
      replace Tx := Tx.ru hr
      replace Ay := Ay.ru hr
      replace Ty := Ty.ru hr
      replace HB := HB.trans (hBt.below HB.size (UpOld.all (bx := []) trivial) (UpX.all (bx := []) trivial))
      clear hBt hr hR hP hTs hLi hX hU hRel hSl
      refine wp_seq ?_
      refine wp_label ?_
      refine wp_seq ?_
      refine wp_block ?_
      have dj_ := lj4 5 (by decide) (by decide) (by decide)
      refine wp_loop_ghost (fun n a w' => a.tmps.size = 51 ∧ a.defers = [] ∧ a.eval (.tmp 2) = .pointer (some ⟨(gs1 0), 0, none⟩) ∧ a.eval (.tmp 3) = .pointer (some ⟨(gs1 1), 0, none⟩) ∧ a.eval (.tmp 4) = .pointer (some ⟨(gs1 2), 0, none⟩) ∧ BoxV W2 w' (gs1 0) (.agg #[.bool nx, .slice ax mx cx]) ∧ BoxV W2 w' (gs1 1) (.agg #[.bool ny, .slice ay my cy]) ∧ BoxV R3 w' (gs1 2) (.agg #[.bool false, .slice none 0 0, .slice none 0 0]) ∧ Below w.heap.size w w' ∧ ∃ X Y BX TX BY TY, OwnLI X L BX TX (a.eval (.tmp 5)) w' ∧ OwnLI Y L BY TY (a.eval (.tmp 6)) w' ∧ (w.heap.size ≤ BX ∧ w.heap.size ≤ BY ∧ SzGe TX w' ∧ SzGe TY w' ∧ (TX ≤ BY ∨ TY ≤ BX)) ∧ ((n = 1 ∧ X = val xs ∧ Y = val ys) ∨ (n = 0 ∧ X = val xs / ((Int.gcd (val xs) (val ys) : Nat) : Int) ∧ Y = val ys / ((Int.gcd (val xs) (val ys) : Nat) : Int)))) 1 ⟨hn, hd, f2, f3, f4, b2, b3, b4, HB, val xs, val ys, _, _, _, _, ⟨_, _, _, f5, F4, l4⟩, ⟨_, _, _, f6, F6, l6⟩, ⟨Nat.le_trans hwb_ lb4, Nat.le_trans hwb_ lb6, HT4, HT6, dj_⟩, .inl ⟨rfl, rfl, rfl⟩⟩ ?_
      clear hn hd f2 f3 f4 f5 f6 b2 b3 b4 HB Ax Tx Ay Ty F4 K4 S4 HT4 F6 K6 S6 HT6
      rintro n a7 w7 ⟨hn, hd, f2, f3, f4, b2, b3, b4, HB, X, Y, BX, TX, BY, TY, ⟨a_X, c_X, r_X, f5, FX, lX⟩, ⟨a_Y, c_Y, r_Y, f6, FY, lY⟩, ⟨hwX, hwY, HTX, HTY, hXYd⟩, hXY⟩
      have KX := FX.got; have KY := FY.got; have SX := KX.sl; have VX := KX.val; have SY := KY.sl; have VY := KY.val
      obtain ⟨hY0, hX0, hg0⟩ := low_pos hy0 hx0 hXY
      have HW : SzGe w.heap.size w7 := HB.size
      refine wp_block ?_
      refine wp_seq ?_
      refine region4 [some 15, some 16, some 17, some 7] [Eqs (.slice a_X r_X.length c_X), Eqs (.slice a_Y r_Y.length c_Y), OutL (((Int.gcd X Y : Nat) : Int)) ((L) + (L) + 1), OutL (((Int.gcd X Y : Nat) : Int)) ((L) + (L) + 1)] [] [] (by kernel_rfl) hn rfl (by kernel_rfl) (by kernel_rfl) (by kernel_rfl) (by kernel_rfl) (by kernel_rfl) (by kernel_rfl) ⟨Eqs.mono4 _, Eqs.mono4 _, OutL.mono4 _ _, OutL.mono4 _ _, trivial⟩ ok_nil (IsOld.all (bx := []) trivial) (DisOld.all (bx := []) trivial) ?_ ?_
      · exact ⟨.norm 15 rfl rfl rfl (fun a_ w_ hn_ hBt hr hR hD hO hS => op_mv ((hR 5 rfl).trans f5)),
          .norm 16 rfl rfl rfl (fun a_ w_ hn_ hBt hr hR hD hO hS => op_mv ((hR 6 rfl).trans f6)),
          .norm 17 rfl rfl rfl (fun a_ w_ hn_ hBt hr hR hD hO hS => op_lgcd (L1 := L) (L2 := L) (isl_eq (show a_.eval (.tmp 15) = .slice a_X r_X.length c_X from hD 0 rfl) (SX.rl hr) VX lX) (isl_eq (show a_.eval (.tmp 16) = .slice a_Y r_Y.length c_Y from hD 1 rfl) (SY.rl hr) VY lY) (by omega) (by omega)),
          .norm 7 rfl rfl rfl (fun a_ w_ hn_ hBt hr hR hD hO hS => op_asp (p := OutL (((Int.gcd X Y : Nat) : Int)) ((L) + (L) + 1)) (show OutL (((Int.gcd X Y : Nat) : Int)) ((L) + (L) + 1) (a_.eval (.tmp 17)) w_ from hD 2 rfl)),
          trivial⟩
      · intro a8 w8 gs8 hn8 hd8 hBt hr hR hP hX hU
        replace hn := hn8; replace hd := hd8.trans hd
        replace b2 := b2.keep hBt trivial
        replace b3 := b3.keep hBt trivial
        replace b4 := b4.keep hBt trivial
        replace f2 := (hR 2 rfl).trans f2
        replace f3 := (hR 3 rfl).trans f3
        replace f4 := (hR 4 rfl).trans f4
        replace f5 := (hR 5 rfl).trans f5
        replace f6 := (hR 6 rfl).trans f6
        obtain ⟨a_9, c_9, r_9, e7, K9, l9⟩ : OutL (((Int.gcd X Y : Nat) : Int)) ((L) + (L) + 1) (a8.eval (.tmp 7)) w8 := hP 3 (by decide)
        have S9 := K9.sl; have V9 := K9.val
        have f7 := e7
        replace FX := FX.rl hr
        replace KX := KX.rl hr
        replace SX := SX.rl hr
        replace FY := FY.rl hr
        replace KY := KY.rl hr
        replace SY := SY.rl hr
        replace HTX := HTX.rl hr
        replace HTY := HTY.rl hr
        replace HW := HW.rl hr
        replace HB := HB.trans (hBt.below HB.size (UpOld.all (bx := []) trivial))
        clear hBt hr hR hP hX hU
        refine wp_seq ?_
        refine region4 [some 18, some 19] [Eqs (.slice a_9 r_9.length c_9), BitsOf (((Int.gcd X Y : Nat) : Int))] [] [] (by kernel_rfl) hn rfl (by kernel_rfl) (by kernel_rfl) (by kernel_rfl) (by kernel_rfl) (by kernel_rfl) (by kernel_rfl) ⟨Eqs.mono4 _, BitsOf.mono4 _, trivial⟩ ok_nil (IsOld.all (bx := []) trivial) (DisOld.all (bx := []) trivial) ?_ ?_
        · exact ⟨.norm 18 rfl rfl rfl (fun a_ w_ hn_ hBt hr hR hD hO hS => op_mv ((hR 7 rfl).trans f7)),
            .norm 19 rfl rfl rfl (fun a_ w_ hn_ hBt hr hR hD hO hS => op_lbits (isl_eq (show a_.eval (.tmp 18) = .slice a_9 r_9.length c_9 from hD 0 rfl) (S9.rl hr) V9 l9) (by omega)),
            trivial⟩
        · intro a10 w10 gs10 hn10 hd10 hBt hr hR hP hX hU
          replace hn := hn10; replace hd := hd10.trans hd
          replace b2 := b2.keep hBt trivial
          replace b3 := b3.keep hBt trivial
          replace b4 := b4.keep hBt trivial
          replace f2 := (hR 2 rfl).trans f2
          replace f3 := (hR 3 rfl).trans f3
          replace f4 := (hR 4 rfl).trans f4
          replace f5 := (hR 5 rfl).trans f5
          replace f6 := (hR 6 rfl).trans f6
          replace f7 := (hR 7 rfl).trans f7
          obtain ⟨k_11, e19, B11⟩ : BitsOf (((Int.gcd X Y : Nat) : Int)) (a10.eval (.tmp 19)) w10 := hP 1 (by decide)
          have f19 := e19
          replace FX := FX.rl hr
          replace KX := KX.rl hr
          replace SX := SX.rl hr
          replace FY := FY.rl hr
          replace KY := KY.rl hr
          replace SY := SY.rl hr
          replace HTX := HTX.rl hr
          replace HTY := HTY.rl hr
          replace HW := HW.rl hr
          replace K9 := K9.rl hr
          replace S9 := S9.rl hr
          replace HB := HB.trans (hBt.below HB.size (UpOld.all (bx := []) trivial))
          clear hBt hr hR hP hX hU
          refine wp_block ?_
          refine wp_seq ?_
          refine region4 [some 35, some 34] [Eqs (.bool (decide ((k_11 : Int) = 1))), Eqs (.bool (decide ((k_11 : Int) = 1)))] [] [] (by kernel_rfl) hn rfl (by kernel_rfl) (by kernel_rfl) (by kernel_rfl) (by kernel_rfl) (by kernel_rfl) (by kernel_rfl) ⟨Eqs.mono4 _, Eqs.mono4 _, trivial⟩ ok_nil (IsOld.all (bx := []) trivial) (DisOld.all (bx := []) trivial) ?_ ?_
          · exact ⟨.norm 35 rfl rfl rfl (fun a_ w_ hn_ hBt hr hR hD hO hS => op_eqlk ((hR 19 rfl).trans f19)),
              .norm 34 rfl rfl rfl (fun a_ w_ hn_ hBt hr hR hD hO hS => op_assign (show a_.eval (.tmp 35) = .bool (decide ((k_11 : Int) = 1)) from hD 0 rfl)),
              trivial⟩
          · intro a12 w12 gs12 hn12 hd12 hBt hr hR hP hX hU
            replace hn := hn12; replace hd := hd12.trans hd
            replace b2 := b2.keep hBt trivial
            replace b3 := b3.keep hBt trivial
            replace b4 := b4.keep hBt trivial
            replace f2 := (hR 2 rfl).trans f2
            replace f3 := (hR 3 rfl).trans f3
            replace f4 := (hR 4 rfl).trans f4
            replace f5 := (hR 5 rfl).trans f5
            replace f6 := (hR 6 rfl).trans f6
            replace f7 := (hR 7 rfl).trans f7
            have e34 : a12.eval (.tmp 34) = .bool (decide ((k_11 : Int) = 1)) := hP 1 (by decide)
            have f34 := e34
            replace FX := FX.rl hr
            replace KX := KX.rl hr
            replace SX := SX.rl hr
            replace FY := FY.rl hr
            replace KY := KY.rl hr
            replace SY := SY.rl hr
            replace HTX := HTX.rl hr
            replace HTY := HTY.rl hr
            replace HW := HW.rl hr
            replace K9 := K9.rl hr
            replace S9 := S9.rl hr
            replace HB := HB.trans (hBt.below HB.size (UpOld.all (bx := []) trivial))
            clear hBt hr hR hP hX hU
            refine wp_cond_split f34 (fun hc34 => ?_) (fun hc34 => ?_)
            · skip
              have hg1 : ((Int.gcd X Y : Nat) : Int) = 1 := (bits_is_one B11 (by omega)).1 (by simpa using hc34)
              have hXe := low_end hy0 hXY hg1
              refine wp_exit ?_
              repeat (first | refine then_exit ?_ | refine scope_exit ?_ | refine block_pass (by decide) ?_)
              refine block_exit ?_
              obtain ⟨bb, hbb⟩ : ∃ b, (nx != ny) = b := ⟨_, rfl⟩
              cases bb with
              | true =>
                refine wp_seq ?_
                refine region4 [some 36, some 37, some 38, some 39, some 40, some 41, some 42, some 43, some 44, some 45, some 8] [Eqs (.pointer (some ⟨(gs1 0), 0, none⟩)), Eqs (.bool nx), Eqs (.pointer (some ⟨(gs1 1), 0, none⟩)), Eqs (.bool ny), Eqs (.bool true), Eqs (.bool true), Eqs (.slice a_X r_X.length c_X), Eqs (.int .i64 (r_X.length : Int)), Eqs (.bool (decide (0 < (r_X.length : Int)))), Eqs (.bool (decide (0 < (r_X.length : Int)))), Eqs (.bool (decide (0 < (r_X.length : Int))))] [] [] (by kernel_rfl) hn rfl (by kernel_rfl) (by kernel_rfl) (by kernel_rfl) (by kernel_rfl) (by kernel_rfl) (by kernel_rfl) ⟨Eqs.mono4 _, Eqs.mono4 _, Eqs.mono4 _, Eqs.mono4 _, Eqs.mono4 _, Eqs.mono4 _, Eqs.mono4 _, Eqs.mono4 _, Eqs.mono4 _, Eqs.mono4 _, Eqs.mono4 _, trivial⟩ ok_nil (IsOld.all (bx := []) trivial) (DisOld.all (bx := []) trivial) ?_ ?_
                · exact ⟨.norm 36 rfl rfl rfl (fun a_ w_ hn_ hBt hr hR hD hO hS => op_fa fa_neg ((hR 2 rfl).trans f2)),
                    .norm 37 rfl rfl rfl (fun a_ w_ hn_ hBt hr hR hD hO hS => op_ldneg (show a_.eval (.tmp 36) = .pointer (some ⟨(gs1 0), 0, none⟩) from hD 0 rfl) (b2.keep hBt trivial)),
                    .norm 38 rfl rfl rfl (fun a_ w_ hn_ hBt hr hR hD hO hS => op_fa fa_neg ((hR 3 rfl).trans f3)),
                    .norm 39 rfl rfl rfl (fun a_ w_ hn_ hBt hr hR hD hO hS => op_ldneg (show a_.eval (.tmp 38) = .pointer (some ⟨(gs1 1), 0, none⟩) from hD 2 rfl) (b3.keep hBt trivial)),
                    .norm 40 rfl rfl rfl (fun a_ w_ hn_ hBt hr hR hD hO hS => (by rw [← hbb]; exact op_neqb (show a_.eval (.tmp 37) = .bool nx from hD 1 rfl) (show a_.eval (.tmp 39) = .bool ny from hD 3 rfl))),
                    .norm 41 rfl rfl rfl (fun a_ w_ hn_ hBt hr hR hD hO hS => op_mv (show a_.eval (.tmp 40) = .bool true from hD 4 rfl)),
                    .norm 42 rfl rfl rfl (fun a_ w_ hn_ hBt hr hR hD hO hS => ⟨⟨_, rfl⟩, fun _ => op_mv ((hR 5 rfl).trans f5), fun hne => absurd (hD 5 rfl) hne⟩),
                    .norm 43 rfl rfl rfl (fun a_ w_ hn_ hBt hr hR hD hO hS => ⟨⟨_, rfl⟩, fun _ => op_len (show a_.eval (.tmp 42) = .slice a_X r_X.length c_X from hD 6 rfl), fun hne => absurd (hD 5 rfl) hne⟩),
                    .norm 44 rfl rfl rfl (fun a_ w_ hn_ hBt hr hR hD hO hS => ⟨⟨_, rfl⟩, fun _ => op_gtrk (show a_.eval (.tmp 43) = .int .i64 (r_X.length : Int) from hD 7 rfl), fun hne => absurd (hD 5 rfl) hne⟩),
                    .norm 45 rfl rfl rfl (fun a_ w_ hn_ hBt hr hR hD hO hS => op_pickb (show a_.eval (.tmp 41) = .bool true from hD 5 rfl) (show a_.eval (.tmp 44) = .bool (decide (0 < (r_X.length : Int))) from hD 8 rfl)),
                    .norm 8 rfl rfl rfl (fun a_ w_ hn_ hBt hr hR hD hO hS => op_assign (show a_.eval (.tmp 45) = .bool (decide (0 < (r_X.length : Int))) from hD 9 rfl)),
                    trivial⟩
                · intro a13 w13 gs13 hn13 hd13 hBt hr hR hP hX hU
                  replace hn := hn13; replace hd := hd13.trans hd
                  replace b4 := b4.keep hBt trivial
                  replace f4 := (hR 4 rfl).trans f4
                  replace f5 := (hR 5 rfl).trans f5
                  replace f6 := (hR 6 rfl).trans f6
                  have e8 : a13.eval (.tmp 8) = .bool (decide (0 < (r_X.length : Int))) := hP 10 (by decide)
                  have f8 := e8
                  replace FX := FX.rl hr
                  replace KX := KX.rl hr
                  replace SX := SX.rl hr
                  replace FY := FY.rl hr
                  replace KY := KY.rl hr
                  replace SY := SY.rl hr
                  replace HTX := HTX.rl hr
                  replace HTY := HTY.rl hr
                  replace HW := HW.rl hr
                  replace K9 := K9.rl hr
                  replace S9 := S9.rl hr
                  replace HB := HB.trans (hBt.below HB.size (UpOld.all (bx := []) trivial))
                  clear hBt hr hR hP hX hU
                  refine wp_seq ?_
                  refine region4 [some 46, some 47, some 48, some 49, some 50, none] [Eqs (.bool (decide (0 < (r_X.length : Int)))), Eqs (.slice a_X r_X.length c_X), Eqs (.agg #[.bool (decide (0 < (r_X.length : Int))), .slice a_X r_X.length c_X]), Eqs (.slice a_Y r_Y.length c_Y), Eqs (.agg #[.bool (decide (0 < (r_X.length : Int))), .slice a_X r_X.length c_X, .slice a_Y r_Y.length c_Y]), (fun _ _ => True)] [⟨R3, none, (gs1 2), 4, .agg #[.bool false, .slice none 0 0, .slice none 0 0], some (5, 50, 4), []⟩] [] (by kernel_rfl) hn rfl (by kernel_rfl) (by kernel_rfl) (by kernel_rfl) (by kernel_rfl) (by kernel_rfl) (by kernel_rfl) ⟨Eqs.mono4 _, Eqs.mono4 _, Eqs.mono4 _, Eqs.mono4 _, Eqs.mono4 _, True.mono4, trivial⟩ (ok_cons R3ok ok_nil) (IsOld.all (bx := [⟨R3, none, (gs1 2), 4, .agg #[.bool false, .slice none 0 0, .slice none 0 0], some (5, 50, 4), []⟩]) ⟨fun _ => ⟨f4, b4⟩, trivial⟩) (DisOld.all (bx := [⟨R3, none, (gs1 2), 4, .agg #[.bool false, .slice none 0 0, .slice none 0 0], some (5, 50, 4), []⟩]) ⟨fun _ => trivial, trivial⟩) ?_ ?_
                  · exact ⟨.norm 46 rfl rfl rfl (fun a_ w_ hn_ hBt hr hR hD hO hS => op_mv ((hR 8 rfl).trans f8)),
                      .norm 47 rfl rfl rfl (fun a_ w_ hn_ hBt hr hR hD hO hS => op_mv ((hR 5 rfl).trans f5)),
                      .norm 48 rfl rfl rfl (fun a_ w_ hn_ hBt hr hR hD hO hS => op_bW2 (show a_.eval (.tmp 46) = .bool (decide (0 < (r_X.length : Int))) from hD 0 rfl) (show a_.eval (.tmp 47) = .slice a_X r_X.length c_X from hD 1 rfl)),
                      .norm 49 rfl rfl rfl (fun a_ w_ hn_ hBt hr hR hD hO hS => op_mv ((hR 6 rfl).trans f6)),
                      .norm 50 rfl rfl rfl (fun a_ w_ hn_ hBt hr hR hD hO hS => op_bR (show a_.eval (.tmp 48) = .agg #[.bool (decide (0 < (r_X.length : Int))), .slice a_X r_X.length c_X] from hD 2 rfl) (show a_.eval (.tmp 49) = .slice a_Y r_Y.length c_Y from hD 3 rfl)),
                      .store 0 _ _ _ rfl rfl rfl rfl rfl rfl rfl (fun ia h => by cases h) rfl rfl rfl (eqs_cs r3_cs),
                      trivial⟩
                  · intro a14 w14 gs14 hn14 hd14 hBt hr hR hP hX hU
                    replace hn := hn14; replace hd := hd14.trans hd
                    have e50 : a14.eval (.tmp 50) = .agg #[.bool (decide (0 < (r_X.length : Int))), .slice a_X r_X.length c_X, .slice a_Y r_Y.length c_Y] := hP 4 (by decide)
                    have b4 : BoxV R3 w14 ((gs1 2)) (.agg #[.bool (decide (0 < (r_X.length : Int))), .slice a_X r_X.length c_X, .slice a_Y r_Y.length c_Y]) := boxv_old ((hX 0 _ rfl).2.1 rfl) (hX 0 _ rfl).2.2.2 e50
                    replace f4 : a14.eval (.tmp 4) = _ := (hR 4 rfl).trans f4
                    replace FX := FX.rl hr
                    replace KX := KX.rl hr
                    replace SX := SX.rl hr
                    replace FY := FY.rl hr
                    replace KY := KY.rl hr
                    replace SY := SY.rl hr
                    replace HTX := HTX.rl hr
                    replace HTY := HTY.rl hr
                    replace HW := HW.rl hr
                    replace K9 := K9.rl hr
                    replace S9 := S9.rl hr
                    replace HB := HB.trans (hBt.below HB.size (UpOld.all (bx := [⟨R3, none, (gs1 2), 4, .agg #[.bool false, .slice none 0 0, .slice none 0 0], some (5, 50, 4), []⟩]) ⟨fun _ => u4, trivial⟩))
                    clear hBt hr hR hP hX hU
                    refine wp_ret ?_
                    repeat (first | refine then_ret ?_ | refine scope_ret ?_ | refine block_ret ?_)
                    refine bodyPost_ret (v := .agg #[.bool (decide (0 < (r_X.length : Int))), .slice a_X r_X.length c_X, .slice a_Y r_Y.length c_Y]) (res_c rfl f4 (lv_R3 b4)) hd ⟨_, rfl, ⟨_, Nat.le_refl _, _, _, _, _, _, _, _, BX, TX, BY, TY, rfl, ⟨?_, ?_⟩, ?_, ⟨hwX, HTX.le, hwY, HTY.le⟩, hXYd, lX, lY⟩, HB⟩
                    · have h : Wh w14 ((decide (0 < (r_X.length : Int)))) a_X c_X r_X (nm zx zy) := by
                        rw [← hwx, ← hwy, nm_sg _ _ hy0, hbb, ← hXe.1]
                        have h := Wh.of true KX
                        simpa using h
                      exact ⟨FX.ow, FX.canon, FX.val.trans (KX.val.symm.trans h.1.val), FX.lies⟩
                    · have h : Wh w14 ((decide (0 < (r_X.length : Int)))) a_X c_X r_X (nm zx zy) := by
                        rw [← hwx, ← hwy, nm_sg _ _ hy0, hbb, ← hXe.1]
                        have h := Wh.of true KX
                        simpa using h
                      exact h.2
                    · rw [← hwx, ← hwy, dn_sg _ _ hy0, ← hXe.2]; exact FY
              | false =>
                refine wp_seq ?_
                refine region4 [some 36, some 37, some 38, some 39, some 40, some 41, some 42, some 43, some 44, some 45, some 8] [Eqs (.pointer (some ⟨(gs1 0), 0, none⟩)), Eqs (.bool nx), Eqs (.pointer (some ⟨(gs1 1), 0, none⟩)), Eqs (.bool ny), Eqs (.bool false), Eqs (.bool false), (fun _ _ => True), (fun _ _ => True), (fun _ _ => True), Eqs (.bool false), Eqs (.bool false)] [] [] (by kernel_rfl) hn rfl (by kernel_rfl) (by kernel_rfl) (by kernel_rfl) (by kernel_rfl) (by kernel_rfl) (by kernel_rfl) ⟨Eqs.mono4 _, Eqs.mono4 _, Eqs.mono4 _, Eqs.mono4 _, Eqs.mono4 _, Eqs.mono4 _, True.mono4, True.mono4, True.mono4, Eqs.mono4 _, Eqs.mono4 _, trivial⟩ ok_nil (IsOld.all (bx := []) trivial) (DisOld.all (bx := []) trivial) ?_ ?_
                · exact ⟨.norm 36 rfl rfl rfl (fun a_ w_ hn_ hBt hr hR hD hO hS => op_fa fa_neg ((hR 2 rfl).trans f2)),
                    .norm 37 rfl rfl rfl (fun a_ w_ hn_ hBt hr hR hD hO hS => op_ldneg (show a_.eval (.tmp 36) = .pointer (some ⟨(gs1 0), 0, none⟩) from hD 0 rfl) (b2.keep hBt trivial)),
                    .norm 38 rfl rfl rfl (fun a_ w_ hn_ hBt hr hR hD hO hS => op_fa fa_neg ((hR 3 rfl).trans f3)),
                    .norm 39 rfl rfl rfl (fun a_ w_ hn_ hBt hr hR hD hO hS => op_ldneg (show a_.eval (.tmp 38) = .pointer (some ⟨(gs1 1), 0, none⟩) from hD 2 rfl) (b3.keep hBt trivial)),
                    .norm 40 rfl rfl rfl (fun a_ w_ hn_ hBt hr hR hD hO hS => (by rw [← hbb]; exact op_neqb (show a_.eval (.tmp 37) = .bool nx from hD 1 rfl) (show a_.eval (.tmp 39) = .bool ny from hD 3 rfl))),
                    .norm 41 rfl rfl rfl (fun a_ w_ hn_ hBt hr hR hD hO hS => op_mv (show a_.eval (.tmp 40) = .bool false from hD 4 rfl)),
                    .norm 42 rfl rfl rfl (fun a_ w_ hn_ hBt hr hR hD hO hS => ⟨⟨_, rfl⟩, fun h => absurd ((show _ = Value.bool false from hD 5 rfl).symm.trans h) (by simp), fun _ => trivial⟩),
                    .norm 43 rfl rfl rfl (fun a_ w_ hn_ hBt hr hR hD hO hS => ⟨⟨_, rfl⟩, fun h => absurd ((show _ = Value.bool false from hD 5 rfl).symm.trans h) (by simp), fun _ => trivial⟩),
                    .norm 44 rfl rfl rfl (fun a_ w_ hn_ hBt hr hR hD hO hS => ⟨⟨_, rfl⟩, fun h => absurd ((show _ = Value.bool false from hD 5 rfl).symm.trans h) (by simp), fun _ => trivial⟩),
                    .norm 45 rfl rfl rfl (fun a_ w_ hn_ hBt hr hR hD hO hS => op_pickb (show a_.eval (.tmp 41) = .bool false from hD 5 rfl) rfl),
                    .norm 8 rfl rfl rfl (fun a_ w_ hn_ hBt hr hR hD hO hS => op_assign (show a_.eval (.tmp 45) = .bool false from hD 9 rfl)),
                    trivial⟩
                · intro a15 w15 gs15 hn15 hd15 hBt hr hR hP hX hU
                  replace hn := hn15; replace hd := hd15.trans hd
                  replace b4 := b4.keep hBt trivial
                  replace f4 := (hR 4 rfl).trans f4
                  replace f5 := (hR 5 rfl).trans f5
                  replace f6 := (hR 6 rfl).trans f6
                  have e8 : a15.eval (.tmp 8) = .bool false := hP 10 (by decide)
                  have f8 := e8
                  replace FX := FX.rl hr
                  replace KX := KX.rl hr
                  replace SX := SX.rl hr
                  replace FY := FY.rl hr
                  replace KY := KY.rl hr
                  replace SY := SY.rl hr
                  replace HTX := HTX.rl hr
                  replace HTY := HTY.rl hr
                  replace HW := HW.rl hr
                  replace K9 := K9.rl hr
                  replace S9 := S9.rl hr
                  replace HB := HB.trans (hBt.below HB.size (UpOld.all (bx := []) trivial))
                  clear hBt hr hR hP hX hU
                  refine wp_seq ?_
                  refine region4 [some 46, some 47, some 48, some 49, some 50, none] [Eqs (.bool false), Eqs (.slice a_X r_X.length c_X), Eqs (.agg #[.bool false, .slice a_X r_X.length c_X]), Eqs (.slice a_Y r_Y.length c_Y), Eqs (.agg #[.bool false, .slice a_X r_X.length c_X, .slice a_Y r_Y.length c_Y]), (fun _ _ => True)] [⟨R3, none, (gs1 2), 4, .agg #[.bool false, .slice none 0 0, .slice none 0 0], some (5, 50, 4), []⟩] [] (by kernel_rfl) hn rfl (by kernel_rfl) (by kernel_rfl) (by kernel_rfl) (by kernel_rfl) (by kernel_rfl) (by kernel_rfl) ⟨Eqs.mono4 _, Eqs.mono4 _, Eqs.mono4 _, Eqs.mono4 _, Eqs.mono4 _, True.mono4, trivial⟩ (ok_cons R3ok ok_nil) (IsOld.all (bx := [⟨R3, none, (gs1 2), 4, .agg #[.bool false, .slice none 0 0, .slice none 0 0], some (5, 50, 4), []⟩]) ⟨fun _ => ⟨f4, b4⟩, trivial⟩) (DisOld.all (bx := [⟨R3, none, (gs1 2), 4, .agg #[.bool false, .slice none 0 0, .slice none 0 0], some (5, 50, 4), []⟩]) ⟨fun _ => trivial, trivial⟩) ?_ ?_
                  · exact ⟨.norm 46 rfl rfl rfl (fun a_ w_ hn_ hBt hr hR hD hO hS => op_mv ((hR 8 rfl).trans f8)),
                      .norm 47 rfl rfl rfl (fun a_ w_ hn_ hBt hr hR hD hO hS => op_mv ((hR 5 rfl).trans f5)),
                      .norm 48 rfl rfl rfl (fun a_ w_ hn_ hBt hr hR hD hO hS => op_bW2 (show a_.eval (.tmp 46) = .bool false from hD 0 rfl) (show a_.eval (.tmp 47) = .slice a_X r_X.length c_X from hD 1 rfl)),
                      .norm 49 rfl rfl rfl (fun a_ w_ hn_ hBt hr hR hD hO hS => op_mv ((hR 6 rfl).trans f6)),
                      .norm 50 rfl rfl rfl (fun a_ w_ hn_ hBt hr hR hD hO hS => op_bR (show a_.eval (.tmp 48) = .agg #[.bool false, .slice a_X r_X.length c_X] from hD 2 rfl) (show a_.eval (.tmp 49) = .slice a_Y r_Y.length c_Y from hD 3 rfl)),
                      .store 0 _ _ _ rfl rfl rfl rfl rfl rfl rfl (fun ia h => by cases h) rfl rfl rfl (eqs_cs r3_cs),
                      trivial⟩
                  · intro a16 w16 gs16 hn16 hd16 hBt hr hR hP hX hU
                    replace hn := hn16; replace hd := hd16.trans hd
                    have e50 : a16.eval (.tmp 50) = .agg #[.bool false, .slice a_X r_X.length c_X, .slice a_Y r_Y.length c_Y] := hP 4 (by decide)
                    have b4 : BoxV R3 w16 ((gs1 2)) (.agg #[.bool false, .slice a_X r_X.length c_X, .slice a_Y r_Y.length c_Y]) := boxv_old ((hX 0 _ rfl).2.1 rfl) (hX 0 _ rfl).2.2.2 e50
                    replace f4 : a16.eval (.tmp 4) = _ := (hR 4 rfl).trans f4
                    replace FX := FX.rl hr
                    replace KX := KX.rl hr
                    replace SX := SX.rl hr
                    replace FY := FY.rl hr
                    replace KY := KY.rl hr
                    replace SY := SY.rl hr
                    replace HTX := HTX.rl hr
                    replace HTY := HTY.rl hr
                    replace HW := HW.rl hr
                    replace K9 := K9.rl hr
                    replace S9 := S9.rl hr
                    replace HB := HB.trans (hBt.below HB.size (UpOld.all (bx := [⟨R3, none, (gs1 2), 4, .agg #[.bool false, .slice none 0 0, .slice none 0 0], some (5, 50, 4), []⟩]) ⟨fun _ => u4, trivial⟩))
                    clear hBt hr hR hP hX hU
                    refine wp_ret ?_
                    repeat (first | refine then_ret ?_ | refine scope_ret ?_ | refine block_ret ?_)
                    refine bodyPost_ret (v := .agg #[.bool false, .slice a_X r_X.length c_X, .slice a_Y r_Y.length c_Y]) (res_c rfl f4 (lv_R3 b4)) hd ⟨_, rfl, ⟨_, Nat.le_refl _, _, _, _, _, _, _, _, BX, TX, BY, TY, rfl, ⟨?_, ?_⟩, ?_, ⟨hwX, HTX.le, hwY, HTY.le⟩, hXYd, lX, lY⟩, HB⟩
                    · have h : Wh w16 (false) a_X c_X r_X (nm zx zy) := by
                        rw [← hwx, ← hwy, nm_sg _ _ hy0, hbb, ← hXe.1]
                        have h := Wh.of false KX
                        simpa using h
                      exact ⟨FX.ow, FX.canon, FX.val.trans (KX.val.symm.trans h.1.val), FX.lies⟩
                    · have h : Wh w16 (false) a_X c_X r_X (nm zx zy) := by
                        rw [← hwx, ← hwy, nm_sg _ _ hy0, hbb, ← hXe.1]
                        have h := Wh.of false KX
                        simpa using h
                      exact h.2
                    · rw [← hwx, ← hwy, dn_sg _ _ hy0, ← hXe.2]; exact FY
            · skip
              have hg1 : ((Int.gcd X Y : Nat) : Int) ≠ 1 := fun e => absurd ((bits_is_one B11 (by omega)).2 e) (by simpa using hc34)
              have hn1 := low_more hy0 hXY hg1
              refine wp_seq ?_
              refine region4 [some 21, some 22, some 23, some 20, some 24, some 25, some 26, some 5] [Eqs (.slice a_X r_X.length c_X), Eqs (.slice a_9 r_9.length c_9), Tup3 (FrL (w12.heap.size) ((X / ((Int.gcd X Y : Nat) : Int))) (L)) (OutL ((X % ((Int.gcd X Y : Nat) : Int))) ((L) + (L) + 1)) (Eqs (.bool true)), Tup3 (FrL (w12.heap.size) ((X / ((Int.gcd X Y : Nat) : Int))) (L)) (OutL ((X % ((Int.gcd X Y : Nat) : Int))) ((L) + (L) + 1)) (Eqs (.bool true)), FrL (w12.heap.size) ((X / ((Int.gcd X Y : Nat) : Int))) (L), OutL ((X % ((Int.gcd X Y : Nat) : Int))) ((L) + (L) + 1), Eqs (.bool true), FrL (w12.heap.size) ((X / ((Int.gcd X Y : Nat) : Int))) (L)] [] [(7, 0)] (by kernel_rfl) hn rfl (by kernel_rfl) (by kernel_rfl) (by kernel_rfl) (by kernel_rfl) (by kernel_rfl) (by kernel_rfl) ⟨Eqs.mono4 _, Eqs.mono4 _, Tup3.mono4 (FrL.mono4 _ _ _) (OutL.mono4 _ _) (Eqs.mono4 _), Tup3.mono4 (FrL.mono4 _ _ _) (OutL.mono4 _ _) (Eqs.mono4 _), FrL.mono4 _ _ _, OutL.mono4 _ _, Eqs.mono4 _, FrL.mono4 _ _ _, trivial⟩ ok_nil (IsOld.all (bx := []) trivial) (DisOld.all (bx := []) trivial) ?_ ?_
              · exact ⟨.norm 21 rfl rfl rfl (fun a_ w_ hn_ hBt hr hR hD hO hS => op_mv ((hS 7 5 rfl rfl).trans f5)),
                  .norm 22 rfl rfl rfl (fun a_ w_ hn_ hBt hr hR hD hO hS => op_mv ((hR 7 rfl).trans f7)),
                  .norm 23 rfl rfl rfl (fun a_ w_ hn_ hBt hr hR hD hO hS => op_ldivF (isl_eq (show a_.eval (.tmp 21) = .slice a_X r_X.length c_X from hD 0 rfl) (SX.rl hr) VX lX) (isl_eq (show a_.eval (.tmp 22) = .slice a_9 r_9.length c_9 from hD 1 rfl) (S9.rl hr) V9 l9) (by omega) hg0 hr.size),
                  .norm 20 rfl rfl rfl (fun a_ w_ hn_ hBt hr hR hD hO hS => op_mvp (p := Tup3 (FrL (w12.heap.size) ((X / ((Int.gcd X Y : Nat) : Int))) (L)) (OutL ((X % ((Int.gcd X Y : Nat) : Int))) ((L) + (L) + 1)) (Eqs (.bool true))) (show Tup3 (FrL (w12.heap.size) ((X / ((Int.gcd X Y : Nat) : Int))) (L)) (OutL ((X % ((Int.gcd X Y : Nat) : Int))) ((L) + (L) + 1)) (Eqs (.bool true)) (a_.eval (.tmp 23)) w_ from hD 2 rfl)),
                  .norm 24 rfl rfl rfl (fun a_ w_ hn_ hBt hr hR hD hO hS => op_ex30 (show Tup3 (FrL (w12.heap.size) ((X / ((Int.gcd X Y : Nat) : Int))) (L)) (OutL ((X % ((Int.gcd X Y : Nat) : Int))) ((L) + (L) + 1)) (Eqs (.bool true)) (a_.eval (.tmp 20)) w_ from hD 3 rfl)),
                  .norm 25 rfl rfl rfl (fun a_ w_ hn_ hBt hr hR hD hO hS => op_ex31 (show Tup3 (FrL (w12.heap.size) ((X / ((Int.gcd X Y : Nat) : Int))) (L)) (OutL ((X % ((Int.gcd X Y : Nat) : Int))) ((L) + (L) + 1)) (Eqs (.bool true)) (a_.eval (.tmp 20)) w_ from hD 3 rfl)),
                  .norm 26 rfl rfl rfl (fun a_ w_ hn_ hBt hr hR hD hO hS => op_ex32 (show Tup3 (FrL (w12.heap.size) ((X / ((Int.gcd X Y : Nat) : Int))) (L)) (OutL ((X % ((Int.gcd X Y : Nat) : Int))) ((L) + (L) + 1)) (Eqs (.bool true)) (a_.eval (.tmp 20)) w_ from hD 3 rfl)),
                  .norm 5 rfl rfl rfl (fun a_ w_ hn_ hBt hr hR hD hO hS => op_asp (p := FrL (w12.heap.size) ((X / ((Int.gcd X Y : Nat) : Int))) (L)) (show FrL (w12.heap.size) ((X / ((Int.gcd X Y : Nat) : Int))) (L) (a_.eval (.tmp 24)) w_ from hD 4 rfl)),
                  trivial⟩
              · intro a17 w17 gs17 hn17 hd17 hBt hr hR hP hX hU
                replace hn := hn17; replace hd := hd17.trans hd
                replace b2 := b2.keep hBt trivial
                replace b3 := b3.keep hBt trivial
                replace b4 := b4.keep hBt trivial
                replace f2 := (hR 2 rfl).trans f2
                replace f3 := (hR 3 rfl).trans f3
                replace f4 := (hR 4 rfl).trans f4
                replace f6 := (hR 6 rfl).trans f6
                replace f7 := (hR 7 rfl).trans f7
                obtain ⟨a_18, c_18, r_18, B18, T18, e5, F18, fb18, ft18, l18⟩ : FrL (w12.heap.size) ((X / ((Int.gcd X Y : Nat) : Int))) (L) (a17.eval (.tmp 5)) w17 := hP 7 (by decide)
                have K18 := F18.got; have S18 := K18.sl; have V18 := K18.val; have HT18 : SzGe T18 w17 := ft18
                have lq18HTX := HTX.le
                have lq18HTY := HTY.le
                have lq18HW := HW.le
                have f5 := e5
                replace FX := FX.rl hr
                replace KX := KX.rl hr
                replace SX := SX.rl hr
                replace FY := FY.rl hr
                replace KY := KY.rl hr
                replace SY := SY.rl hr
                replace HTX := HTX.rl hr
                replace HTY := HTY.rl hr
                replace HW := HW.rl hr
                replace K9 := K9.rl hr
                replace S9 := S9.rl hr
                replace HB := HB.trans (hBt.below HB.size (UpOld.all (bx := []) trivial))
                clear hBt hr hR hP hX hU
                refine region4 [some 28, some 29, some 30, some 27, some 31, some 32, some 33, some 6] [Eqs (.slice a_Y r_Y.length c_Y), Eqs (.slice a_9 r_9.length c_9), Tup3 (FrL (w17.heap.size) ((Y / ((Int.gcd X Y : Nat) : Int))) (L)) (OutL ((Y % ((Int.gcd X Y : Nat) : Int))) ((L) + (L) + 1)) (Eqs (.bool true)), Tup3 (FrL (w17.heap.size) ((Y / ((Int.gcd X Y : Nat) : Int))) (L)) (OutL ((Y % ((Int.gcd X Y : Nat) : Int))) ((L) + (L) + 1)) (Eqs (.bool true)), FrL (w17.heap.size) ((Y / ((Int.gcd X Y : Nat) : Int))) (L), OutL ((Y % ((Int.gcd X Y : Nat) : Int))) ((L) + (L) + 1), Eqs (.bool true), FrL (w17.heap.size) ((Y / ((Int.gcd X Y : Nat) : Int))) (L)] [] [(7, 0)] (by kernel_rfl) hn rfl (by kernel_rfl) (by kernel_rfl) (by kernel_rfl) (by kernel_rfl) (by kernel_rfl) (by kernel_rfl) ⟨Eqs.mono4 _, Eqs.mono4 _, Tup3.mono4 (FrL.mono4 _ _ _) (OutL.mono4 _ _) (Eqs.mono4 _), Tup3.mono4 (FrL.mono4 _ _ _) (OutL.mono4 _ _) (Eqs.mono4 _), FrL.mono4 _ _ _, OutL.mono4 _ _, Eqs.mono4 _, FrL.mono4 _ _ _, trivial⟩ ok_nil (IsOld.all (bx := []) trivial) (DisOld.all (bx := []) trivial) ?_ ?_
                · exact ⟨.norm 28 rfl rfl rfl (fun a_ w_ hn_ hBt hr hR hD hO hS => op_mv ((hS 7 6 rfl rfl).trans f6)),
                    .norm 29 rfl rfl rfl (fun a_ w_ hn_ hBt hr hR hD hO hS => op_mv ((hR 7 rfl).trans f7)),
                    .norm 30 rfl rfl rfl (fun a_ w_ hn_ hBt hr hR hD hO hS => op_ldivF (isl_eq (show a_.eval (.tmp 28) = .slice a_Y r_Y.length c_Y from hD 0 rfl) (SY.rl hr) VY lY) (isl_eq (show a_.eval (.tmp 29) = .slice a_9 r_9.length c_9 from hD 1 rfl) (S9.rl hr) V9 l9) (by omega) hg0 hr.size),
                    .norm 27 rfl rfl rfl (fun a_ w_ hn_ hBt hr hR hD hO hS => op_mvp (p := Tup3 (FrL (w17.heap.size) ((Y / ((Int.gcd X Y : Nat) : Int))) (L)) (OutL ((Y % ((Int.gcd X Y : Nat) : Int))) ((L) + (L) + 1)) (Eqs (.bool true))) (show Tup3 (FrL (w17.heap.size) ((Y / ((Int.gcd X Y : Nat) : Int))) (L)) (OutL ((Y % ((Int.gcd X Y : Nat) : Int))) ((L) + (L) + 1)) (Eqs (.bool true)) (a_.eval (.tmp 30)) w_ from hD 2 rfl)),
                    .norm 31 rfl rfl rfl (fun a_ w_ hn_ hBt hr hR hD hO hS => op_ex30 (show Tup3 (FrL (w17.heap.size) ((Y / ((Int.gcd X Y : Nat) : Int))) (L)) (OutL ((Y % ((Int.gcd X Y : Nat) : Int))) ((L) + (L) + 1)) (Eqs (.bool true)) (a_.eval (.tmp 27)) w_ from hD 3 rfl)),
                    .norm 32 rfl rfl rfl (fun a_ w_ hn_ hBt hr hR hD hO hS => op_ex31 (show Tup3 (FrL (w17.heap.size) ((Y / ((Int.gcd X Y : Nat) : Int))) (L)) (OutL ((Y % ((Int.gcd X Y : Nat) : Int))) ((L) + (L) + 1)) (Eqs (.bool true)) (a_.eval (.tmp 27)) w_ from hD 3 rfl)),
                    .norm 33 rfl rfl rfl (fun a_ w_ hn_ hBt hr hR hD hO hS => op_ex32 (show Tup3 (FrL (w17.heap.size) ((Y / ((Int.gcd X Y : Nat) : Int))) (L)) (OutL ((Y % ((Int.gcd X Y : Nat) : Int))) ((L) + (L) + 1)) (Eqs (.bool true)) (a_.eval (.tmp 27)) w_ from hD 3 rfl)),
                    .norm 6 rfl rfl rfl (fun a_ w_ hn_ hBt hr hR hD hO hS => op_asp (p := FrL (w17.heap.size) ((Y / ((Int.gcd X Y : Nat) : Int))) (L)) (show FrL (w17.heap.size) ((Y / ((Int.gcd X Y : Nat) : Int))) (L) (a_.eval (.tmp 31)) w_ from hD 4 rfl)),
                    trivial⟩
                · intro a19 w19 gs19 hn19 hd19 hBt hr hR hP hX hU
                  replace hn := hn19; replace hd := hd19.trans hd
                  replace b2 := b2.keep hBt trivial
                  replace b3 := b3.keep hBt trivial
                  replace b4 := b4.keep hBt trivial
                  replace f2 := (hR 2 rfl).trans f2
                  replace f3 := (hR 3 rfl).trans f3
                  replace f4 := (hR 4 rfl).trans f4
                  replace f5 := (hR 5 rfl).trans f5
                  obtain ⟨a_20, c_20, r_20, B20, T20, e6, F20, fb20, ft20, l20⟩ : FrL (w17.heap.size) ((Y / ((Int.gcd X Y : Nat) : Int))) (L) (a19.eval (.tmp 6)) w19 := hP 7 (by decide)
                  have K20 := F20.got; have S20 := K20.sl; have V20 := K20.val; have HT20 : SzGe T20 w19 := ft20
                  have lq20HTX := HTX.le
                  have lq20HTY := HTY.le
                  have lq20HW := HW.le
                  have lq20HT18 := HT18.le
                  have f6 := e6
                  replace FX := FX.rl hr
                  replace KX := KX.rl hr
                  replace SX := SX.rl hr
                  replace FY := FY.rl hr
                  replace KY := KY.rl hr
                  replace SY := SY.rl hr
                  replace HTX := HTX.rl hr
                  replace HTY := HTY.rl hr
                  replace HW := HW.rl hr
                  replace K9 := K9.rl hr
                  replace S9 := S9.rl hr
                  replace F18 := F18.rl hr
                  replace K18 := K18.rl hr
                  replace S18 := S18.rl hr
                  replace HT18 := HT18.rl hr
                  replace HB := HB.trans (hBt.below HB.size (UpOld.all (bx := []) trivial))
                  clear hBt hr hR hP hX hU
                  refine block_normal ?_
                  refine block_normal ?_
                  have hz1_ := HB.size; have hz2_ := HT18.le; have hz3_ := HT20.le
                  exact ⟨0, by omega, hn, hd, f2, f3, f4, b2, b3, b4, HB, _, _, _, _, _, _, ⟨_, _, _, f5, F18, l18⟩, ⟨_, _, _, f6, F20, l20⟩, ⟨by omega, by omega, HT18, HT20, by omega⟩, Or.inr ⟨rfl, by rw [hn1.2.1, hn1.2.2], by rw [hn1.2.1, hn1.2.2]⟩⟩
theorem op_lowestF {dst : Option Tmp} {ty : TypeId} {pos : String} {after : Array Edge} {guard : Option (Nat × Bool)} {a : Act} {w : World} {ats : Array TypeId} {i j : Nat} {p q : Int} {L1 L2 : Nat} (h : IsW p L1 (a.eval (.tmp i)) w) (h' : IsW q L2 (a.eval (.tmp j)) w) (hL : L1 + L2 ≤ 100000) (hq : q ≠ 0) :
    Does Try.prog { dst, op := .call { callee := .value (.func 46), args := #[.tmp i, .tmp j], argTypes := ats }, type := ty, pos, after, guard } a.eval w fun v w' => Below w.heap.size w w' ∧ FrR w.heap.size (nm p q) (dn p q) (L1 + L2) v w' := by
  obtain ⟨ng, ao, n, cap, xs, e, A, l⟩ := h
  obtain ⟨ng', ao', n', cap', xs', e', A', l'⟩ := h'
  refine does_call has_lowest _ (by simp only [List.map_toArray, List.map_cons, List.map_nil, e, e']) ((lowest_F w (L1 + L2) hL _ _ _ _ _ _ A (by omega) _ _ _ _ _ _ A' (by omega) hq).mono ?_)
  rintro e w' ⟨v, rfl, h1, hb⟩
  exact ⟨_, rfl, hb, h1⟩
end Lm
end Go.Proofs.Ytpofkigboedliaa

namespace Go.Proofs.Ytpofkigboedliaa
namespace Lm
open Go Go.RowKit
theorem frlow {P : Program} {o : Oper} {a : Act} {w : World} {K : Nat} {p q : Int} {L : Nat} (hK : K ≤ w.heap.size) (hd : Does P o a.eval w fun v w' => Below w.heap.size w w' ∧ FrR w.heap.size p q L v w') : Does P o a.eval w fun v w' => Below w.heap.size w w' ∧ FrR K p q L v w' :=
  hd.mono fun _ _ ⟨hb, T, h0, ng, ao, cap, rs, bo, dap, ss, B1, T1, B2, T2, e, h1, h2, h3, h4⟩ => ⟨hb, T, h0, ng, ao, cap, rs, bo, dap, ss, B1, T1, B2, T2, e, h1, h2, ⟨Nat.le_trans hK h3.1, h3.2.1, Nat.le_trans hK h3.2.2.1, h3.2.2.2⟩, h4⟩
theorem frwlow {P : Program} {o : Oper} {a : Act} {w : World} {K : Nat} {z : Int} {L : Nat} {p : Says} (hK : K ≤ w.heap.size) (hd : Does P o a.eval w fun v w' => Below w.heap.size w w' ∧ Tup2 (FrW w.heap.size z L) p v w') : Does P o a.eval w fun v w' => Below w.heap.size w w' ∧ Tup2 (FrW K z L) p v w' :=
  hd.mono fun _ _ ⟨hb, x, y, e, ⟨ng, ao, cap, rs, B, T, e', h, h1, h2⟩, h3⟩ => ⟨hb, x, y, e, ⟨ng, ao, cap, rs, B, T, e', h, Nat.le_trans hK h1, h2⟩, h3⟩
theorem frw_zero {K L : Nat} {w' : World} (hK : K ≤ w'.heap.size) (w : World) (h : w = w' := by rfl) : FrW K 0 L (.agg #[.bool false, .slice none 0 0]) w := by
  subst h
  exact ⟨false, none, 0, [], w.heap.size, w.heap.size, rfl, (li_nil _ _ _).wfr (wh_nil _), hK, Nat.le_refl _, by simp⟩
section
variable {dst : Option Tmp} {ty : TypeId} {pos : String} {after : Array Edge} {guard : Option (Nat × Bool)} {a : Act} {w : World} {ats : Array TypeId} {i j : Nat} {x y : Int} {L1 L2 K : Nat}
theorem op_wdivF (hx : IsW x L1 (a.eval (.tmp i)) w) (hy : IsW y L2 (a.eval (.tmp j)) w) (h1 : L1 ≤ 400000) (h2 : L2 ≤ 400000) (h0 : y ≠ 0) (hK : K ≤ w.heap.size) :
    Does Try.prog { dst, op := .call { callee := .value (.func 32), args := #[.tmp i, .tmp j], argTypes := ats }, type := ty, pos, after, guard } a.eval w fun v w' => Below w.heap.size w w' ∧ Tup3 (FrW K (x / y) (L1 + 4)) (OutW (x % y) L2) (Eqs (.bool true)) v w' := by
  obtain ⟨n1, a1, m1, c1, xs, e1, A1, l1⟩ := hx
  obtain ⟨n2, a2, m2, c2, ys, e2, A2, l2⟩ := hy
  have hv : val ys ≠ 0 := fun e => h0 (by rw [← A2.worth, e]; cases n2 <;> simp [sg])
  refine does_call has_wdiv _ (by simp only [List.map_toArray, List.map_cons, List.map_nil, e1, e2]) ((wdivmod_o w n1 a1 m1 c1 xs A1.sl n2 a2 m2 c2 ys A2.sl (by omega) (by omega) hv).mono ?_)
  rintro e w' ⟨nq, aq, cq, qs, nr, ar, cr, rs, B1, T1, B2, T2, rfl, G1, G2, q1, q2, o1, o2, ⟨y1, y2, y3, y4, y5⟩, hb⟩
  rw [A1.worth, A2.worth] at G1 G2
  exact ⟨_, rfl, hb, _, _, _, rfl, ⟨_, _, _, _, _, _, rfl, o1.wfr G1, by omega, y2, by omega⟩, ⟨_, _, _, _, rfl, G2, by omega⟩, rfl⟩
theorem op_max {u v : Nat} (h1 : a.eval (.tmp i) = .int .i64 (u : Int)) (h2 : a.eval (.tmp j) = .int .i64 (v : Int)) {ts : Array TypeId} :
    Does Try.prog { dst, op := .call { callee := .builtin .max, args := #[.tmp i, .tmp j], argTypes := ts }, type := ty, pos, after, guard } a.eval w fun v' w' => Below w.heap.size w w' ∧ Eqs (.int .i64 ((max u v : Nat) : Int)) v' w' := by
  have e : (execOp a.eval { dst, op := .call { callee := .builtin .max, args := #[.tmp i, .tmp j], argTypes := ts }, type := ty, pos, after, guard }).run Try.prog w = .ok (.value (.int .i64 ((max u v : Nat) : Int))) w := by
    have h1' : a.tmps[i]?.getD undef = .int .i64 (u : Int) := by simpa [Act.eval] using h1
    have h2' : a.tmps[j]?.getD undef = .int .i64 (v : Int) := by simpa [Act.eval] using h2
    simp [go_sem, h1', h2']
    omega
  refine ⟨?_⟩
  unfold Turns
  rw [e]
  exact ⟨Below.refl _ _, rfl⟩
end
set_option maxRecDepth 20000 in
set_option maxHeartbeats 2000000 in
theorem rtrimF_z (w : World) (Br : Nat) (nr : Bool) (ar : Option Addr) (mr cr : Nat) (rs : List Int) (pr : Int) (Ar : Ag w nr ar mr cr rs pr) (Lr : rs.length ≤ Br) (br : Option Addr) (kr dr : Nat) (rt : List Int) (qr : Int) (Sr : Sl w (.slice br kr dr) rt) (Vr : val rt = qr) (Mr : rt.length ≤ Br) (hL : 2 * (Br + 2) ≤ 100000) :
    Calls Try.prog 17 #[.agg #[.bool nr, .slice ar mr cr, .slice br kr dr]] w fun e w' => ∃ v, e = .returned v ∧ (FrR w.heap.size (nm (tp pr qr) (tq qr)) (dn (tp pr qr) (tq qr)) (2 * (Br + 2))) v w' ∧ Below w.heap.size w w' := by
  go_enter Try.func17, Try.ntmps17
  generalize hA : (Act.mk _ _) = aa
  have hn : aa.tmps.size = 8 := by rw [← hA]; rfl
  have hd : aa.defers = [] := by rw [← hA]
  have f0 : aa.eval (.tmp 0) = .agg #[.bool nr, .slice ar mr cr, .slice br kr dr] := by rw [← hA]; rfl
  clear hA
  have HB : Below w.heap.size w w := Below.refl _ _
  have Dr : Ag w false br kr dr rt qr := ⟨Sr, Vr⟩
  refine wp_seq ?_
  refine region4 [some 1, some 2] [(fun _ _ => True), (fun _ _ => True)] [⟨R3, some 0, 0, 1, .agg #[.bool nr, .slice ar mr cr, .slice br kr dr], none, []⟩, ⟨R3, some 1, 0, 2, .agg #[.bool false, .slice none 0 0, .slice none 0 0], none, []⟩] [] (by kernel_rfl) hn rfl (by kernel_rfl) (by kernel_rfl) (by kernel_rfl) (by kernel_rfl) (by kernel_rfl) (by kernel_rfl) ⟨True.mono4, True.mono4, trivial⟩ (ok_cons R3ok (ok_cons R3ok ok_nil)) (IsOld.all (bx := [⟨R3, some 0, 0, 1, .agg #[.bool nr, .slice ar mr cr, .slice br kr dr], none, []⟩, ⟨R3, some 1, 0, 2, .agg #[.bool false, .slice none 0 0, .slice none 0 0], none, []⟩]) ⟨someNe, someNe, trivial⟩) (DisOld.all (bx := [⟨R3, some 0, 0, 1, .agg #[.bool nr, .slice ar mr cr, .slice br kr dr], none, []⟩, ⟨R3, some 1, 0, 2, .agg #[.bool false, .slice none 0 0, .slice none 0 0], none, []⟩]) ⟨someNe, someNe, trivial⟩) ?_ ?_
  · exact ⟨.alloc 0 _ rfl rfl (.inr ⟨_, rfl, r3_cs, fun a_ hR => (hR 0 rfl).trans f0⟩) rfl rfl rfl rfl rfl,
      .alloc 1 _ rfl rfl (.inl ⟨rfl, rfl⟩) rfl rfl rfl rfl rfl,
      trivial⟩
  · intro a1 w1 gs1 hn1 hd1 hBt hr hR hP hX hU
    replace hn := hn1; replace hd := hd1.trans hd
    have ne1_2 : gs1 0 ≠ gs1 1 := hU 0 1 (by simp) (by simp) (by decide)
    have b1 : BoxV R3 w1 (gs1 0) (.agg #[.bool nr, .slice ar mr cr, .slice br kr dr]) := (hX 0 _ rfl).2.2.2
    have f1 := (hX 0 _ rfl).1
    have u1 : w.heap.size ≤ gs1 0 := Nat.le_trans HB.size ((hX 0 _ rfl).2.2.1 (by simp))
    have b2 : BoxV R3 w1 (gs1 1) (.agg #[.bool false, .slice none 0 0, .slice none 0 0]) := (hX 1 _ rfl).2.2.2
    have f2 := (hX 1 _ rfl).1
    have u2 : w.heap.size ≤ gs1 1 := Nat.le_trans HB.size ((hX 1 _ rfl).2.2.1 (by simp))
    replace Ar := Ar.rl hr
    replace Sr := Sr.rl hr
    replace Dr := Dr.rl hr
    replace HB := HB.trans (hBt.below HB.size (UpOld.all (bx := [⟨R3, some 0, 0, 1, .agg #[.bool nr, .slice ar mr cr, .slice br kr dr], none, []⟩, ⟨R3, some 1, 0, 2, .agg #[.bool false, .slice none 0 0, .slice none 0 0], none, []⟩]) ⟨someNe, someNe, trivial⟩))
    clear hBt hr hR hP hX hU
    refine wp_seq ?_
    refine region4 [some 3, some 4, some 5, some 6, some 7, none] [Eqs (.agg #[.bool nr, .slice ar mr cr, .slice br kr dr]), Tup2 (IsW ((tp pr qr)) ((Br) + 2)) (IsW ((tq qr)) ((Br) + 2)), IsW ((tp pr qr)) ((Br) + 2), IsW ((tq qr)) ((Br) + 2), FrR (w.heap.size) ((nm (tp pr qr) (tq qr))) ((dn (tp pr qr) (tq qr))) (((Br) + 2) + ((Br) + 2)), (fun _ _ => True)] [⟨R3, none, (gs1 1), 2, .agg #[.bool false, .slice none 0 0, .slice none 0 0], some (5, 7, 4), []⟩] [] (by kernel_rfl) hn rfl (by kernel_rfl) (by kernel_rfl) (by kernel_rfl) (by kernel_rfl) (by kernel_rfl) (by kernel_rfl) ⟨Eqs.mono4 _, Tup2.mono4 (IsW.mono4 _ _) (IsW.mono4 _ _), IsW.mono4 _ _, IsW.mono4 _ _, FrR.mono4 _ _ _ _, True.mono4, trivial⟩ (ok_cons R3ok ok_nil) (IsOld.all (bx := [⟨R3, none, (gs1 1), 2, .agg #[.bool false, .slice none 0 0, .slice none 0 0], some (5, 7, 4), []⟩]) ⟨fun _ => ⟨f2, b2⟩, trivial⟩) (DisOld.all (bx := [⟨R3, none, (gs1 1), 2, .agg #[.bool false, .slice none 0 0, .slice none 0 0], some (5, 7, 4), []⟩]) ⟨fun _ => trivial, trivial⟩) ?_ ?_
    · exact ⟨.norm 3 rfl rfl rfl (fun a_ w_ hn_ hBt hr hR hD hO hS => op_loadv R3ok ((hR 1 rfl).trans f1) (b1.keep hBt ⟨fun _ => ne1_2.symm, trivial⟩)),
        .norm 4 rfl rfl rfl (fun a_ w_ hn_ hBt hr hR hD hO hS => op_terms (isr_eq (show a_.eval (.tmp 3) = .agg #[.bool nr, .slice ar mr cr, .slice br kr dr] from hD 0 rfl) (Ar.rl hr) (Sr.rl hr) Vr Lr Mr) (by omega)),
        .norm 5 rfl rfl rfl (fun a_ w_ hn_ hBt hr hR hD hO hS => op_ex20 (show Tup2 (IsW ((tp pr qr)) ((Br) + 2)) (IsW ((tq qr)) ((Br) + 2)) (a_.eval (.tmp 4)) w_ from hD 1 rfl)),
        .norm 6 rfl rfl rfl (fun a_ w_ hn_ hBt hr hR hD hO hS => op_ex21 (show Tup2 (IsW ((tp pr qr)) ((Br) + 2)) (IsW ((tq qr)) ((Br) + 2)) (a_.eval (.tmp 4)) w_ from hD 1 rfl)),
        .norm 7 rfl rfl rfl (fun a_ w_ hn_ hBt hr hR hD hO hS => frlow (Nat.le_trans HB.size hr.size) (op_lowestF (show IsW ((tp pr qr)) ((Br) + 2) (a_.eval (.tmp 5)) w_ from hD 2 rfl) (show IsW ((tq qr)) ((Br) + 2) (a_.eval (.tmp 6)) w_ from hD 3 rfl) (by omega) (tq_ne _))),
        .store 0 _ _ _ rfl rfl rfl rfl rfl rfl rfl (fun ia h => by cases h) rfl rfl rfl FrR.cs,
        trivial⟩
    · intro a2 w2 gs2 hn2 hd2 hBt hr hR hP hX hU
      replace hn := hn2; replace hd := hd2.trans hd
      obtain ⟨T3, ft3, n_3, a_3, c_3, r_3, b_3, d_3, s_3, Bp3, Tp3, Bq3, Tq3, e7, F3, H3, fb3, fd3, l3, k3⟩ : FrR (w.heap.size) ((nm (tp pr qr) (tq qr))) ((dn (tp pr qr) (tq qr))) (((Br) + 2) + ((Br) + 2)) (a2.eval (.tmp 7)) w2 := hP 4 (by decide)
      have G3 := F3.wh; have K3 := H3.got; have A3 := G3.ag; have S3 := K3.sl; have V3 := K3.val; have HT3 : SzGe T3 w2 := ft3
      have b2 : BoxV R3 w2 ((gs1 1)) (.agg #[.bool n_3, .slice a_3 r_3.length c_3, .slice b_3 s_3.length d_3]) := boxv_old ((hX 0 _ rfl).2.1 rfl) (hX 0 _ rfl).2.2.2 e7
      replace f2 : a2.eval (.tmp 2) = _ := (hR 2 rfl).trans f2
      replace Ar := Ar.rl hr
      replace Sr := Sr.rl hr
      replace Dr := Dr.rl hr
      replace HB := HB.trans (hBt.below HB.size (UpOld.all (bx := [⟨R3, none, (gs1 1), 2, .agg #[.bool false, .slice none 0 0, .slice none 0 0], some (5, 7, 4), []⟩]) ⟨fun _ => u2, trivial⟩))
      clear hBt hr hR hP hX hU
      refine wp_ret ?_
      repeat (first | refine then_ret ?_ | refine scope_ret ?_ | refine block_ret ?_)
      exact bodyPost_ret (v := .agg #[.bool n_3, .slice a_3 r_3.length c_3, .slice b_3 s_3.length d_3]) (res_c rfl f2 (lv_R3 b2)) hd ⟨_, rfl, FrR.to ⟨_, HT3.le, _, _, _, _, _, _, _, _, _, _, _, rfl, F3, H3, fb3, fd3, l3, k3⟩ rfl rfl (by omega), HB⟩
theorem has_rtrimF : Has Try.prog 17 := by unfold Has; kernel_rfl
theorem op_rtrimF {dst : Option Tmp} {ty : TypeId} {pos : String} {after : Array Edge} {guard : Option (Nat × Bool)} {a : Act} {w : World} {ats : Array TypeId} {i : Nat} {Br : Nat} {pr qr : Int} (Hr : IsR pr qr Br (a.eval (.tmp i)) w) (hL : 2 * (Br + 2) ≤ 100000) :
    Does Try.prog { dst, op := .call { callee := .value (.func 17), args := #[.tmp i], argTypes := ats }, type := ty, pos, after, guard } a.eval w fun v w' => Below w.heap.size w w' ∧ (FrR w.heap.size (nm (tp pr qr) (tq qr)) (dn (tp pr qr) (tq qr)) (2 * (Br + 2))) v w' := by
  obtain ⟨nr, ar, mr, cr, rs, br, kr, dr, rt, er, Ar, Sr, Vr, Lr, Mr⟩ := Hr
  refine does_call has_rtrimF _ (by simp only [List.map_toArray, List.map_cons, List.map_nil, er]) ((rtrimF_z w Br _ _ _ _ _ _ Ar Lr _ _ _ _ _ Sr Vr Mr hL).mono ?_)
  rintro e w' ⟨v, rfl, h1, hb⟩
  exact ⟨_, rfl, hb, h1⟩
set_option maxRecDepth 20000 in
set_option maxHeartbeats 2000000 in
theorem rnegF_z (w : World) (Br : Nat) (nr : Bool) (ar : Option Addr) (mr cr : Nat) (rs : List Int) (pr : Int) (Ar : Ag w nr ar mr cr rs pr) (Lr : rs.length ≤ Br) (br : Option Addr) (kr dr : Nat) (rt : List Int) (qr : Int) (Sr : Sl w (.slice br kr dr) rt) (Vr : val rt = qr) (Mr : rt.length ≤ Br) (hL : 2 * (Br + 2) ≤ 100000) :
    Calls Try.prog 19 #[.agg #[.bool nr, .slice ar mr cr, .slice br kr dr]] w fun e w' => ∃ v, e = .returned v ∧ (FrR w.heap.size (nm (-(tp pr qr)) (tq qr)) (dn (-(tp pr qr)) (tq qr)) (2 * (Br + 2))) v w' ∧ Below w.heap.size w w' := by
  go_enter Try.func19, Try.ntmps19
  generalize hA : (Act.mk _ _) = aa
  have hn : aa.tmps.size = 14 := by rw [← hA]; rfl
  have hd : aa.defers = [] := by rw [← hA]
  have f0 : aa.eval (.tmp 0) = .agg #[.bool nr, .slice ar mr cr, .slice br kr dr] := by rw [← hA]; rfl
  clear hA
  have HB : Below w.heap.size w w := Below.refl _ _
  have Dr : Ag w false br kr dr rt qr := ⟨Sr, Vr⟩
  refine wp_seq ?_
  refine region4 [some 1, some 2] [(fun _ _ => True), (fun _ _ => True)] [⟨R3, some 0, 0, 1, .agg #[.bool nr, .slice ar mr cr, .slice br kr dr], none, []⟩, ⟨R3, some 1, 0, 2, .agg #[.bool false, .slice none 0 0, .slice none 0 0], none, []⟩] [] (by kernel_rfl) hn rfl (by kernel_rfl) (by kernel_rfl) (by kernel_rfl) (by kernel_rfl) (by kernel_rfl) (by kernel_rfl) ⟨True.mono4, True.mono4, trivial⟩ (ok_cons R3ok (ok_cons R3ok ok_nil)) (IsOld.all (bx := [⟨R3, some 0, 0, 1, .agg #[.bool nr, .slice ar mr cr, .slice br kr dr], none, []⟩, ⟨R3, some 1, 0, 2, .agg #[.bool false, .slice none 0 0, .slice none 0 0], none, []⟩]) ⟨someNe, someNe, trivial⟩) (DisOld.all (bx := [⟨R3, some 0, 0, 1, .agg #[.bool nr, .slice ar mr cr, .slice br kr dr], none, []⟩, ⟨R3, some 1, 0, 2, .agg #[.bool false, .slice none 0 0, .slice none 0 0], none, []⟩]) ⟨someNe, someNe, trivial⟩) ?_ ?_
  · exact ⟨.alloc 0 _ rfl rfl (.inr ⟨_, rfl, r3_cs, fun a_ hR => (hR 0 rfl).trans f0⟩) rfl rfl rfl rfl rfl,
      .alloc 1 _ rfl rfl (.inl ⟨rfl, rfl⟩) rfl rfl rfl rfl rfl,
      trivial⟩
  · intro a1 w1 gs1 hn1 hd1 hBt hr hR hP hX hU
    replace hn := hn1; replace hd := hd1.trans hd
    have ne1_2 : gs1 0 ≠ gs1 1 := hU 0 1 (by simp) (by simp) (by decide)
    have b1 : BoxV R3 w1 (gs1 0) (.agg #[.bool nr, .slice ar mr cr, .slice br kr dr]) := (hX 0 _ rfl).2.2.2
    have f1 := (hX 0 _ rfl).1
    have u1 : w.heap.size ≤ gs1 0 := Nat.le_trans HB.size ((hX 0 _ rfl).2.2.1 (by simp))
    have b2 : BoxV R3 w1 (gs1 1) (.agg #[.bool false, .slice none 0 0, .slice none 0 0]) := (hX 1 _ rfl).2.2.2
    have f2 := (hX 1 _ rfl).1
    have u2 : w.heap.size ≤ gs1 1 := Nat.le_trans HB.size ((hX 1 _ rfl).2.2.1 (by simp))
    replace Ar := Ar.rl hr
    replace Sr := Sr.rl hr
    replace Dr := Dr.rl hr
    replace HB := HB.trans (hBt.below HB.size (UpOld.all (bx := [⟨R3, some 0, 0, 1, .agg #[.bool nr, .slice ar mr cr, .slice br kr dr], none, []⟩, ⟨R3, some 1, 0, 2, .agg #[.bool false, .slice none 0 0, .slice none 0 0], none, []⟩]) ⟨someNe, someNe, trivial⟩))
    clear hBt hr hR hP hX hU
    refine wp_seq ?_
    refine region4 [some 6, some 7, some 5, some 8, some 9, some 3, some 4, none, none] [Eqs (.agg #[.bool nr, .slice ar mr cr, .slice br kr dr]), Tup2 (IsW ((tp pr qr)) ((Br) + 2)) (IsW ((tq qr)) ((Br) + 2)), Tup2 (IsW ((tp pr qr)) ((Br) + 2)) (IsW ((tq qr)) ((Br) + 2)), IsW ((tp pr qr)) ((Br) + 2), IsW ((tq qr)) ((Br) + 2), (fun _ _ => True), (fun _ _ => True), (fun _ _ => True), (fun _ _ => True)] [⟨W2, some 5, 0, 3, .agg #[.bool false, .slice none 0 0], some (7, 8, 3), []⟩, ⟨W2, some 6, 0, 4, .agg #[.bool false, .slice none 0 0], some (8, 9, 4), []⟩] [] (by kernel_rfl) hn rfl (by kernel_rfl) (by kernel_rfl) (by kernel_rfl) (by kernel_rfl) (by kernel_rfl) (by kernel_rfl) ⟨Eqs.mono4 _, Tup2.mono4 (IsW.mono4 _ _) (IsW.mono4 _ _), Tup2.mono4 (IsW.mono4 _ _) (IsW.mono4 _ _), IsW.mono4 _ _, IsW.mono4 _ _, True.mono4, True.mono4, True.mono4, True.mono4, trivial⟩ (ok_cons W2ok (ok_cons W2ok ok_nil)) (IsOld.all (bx := [⟨W2, some 5, 0, 3, .agg #[.bool false, .slice none 0 0], some (7, 8, 3), []⟩, ⟨W2, some 6, 0, 4, .agg #[.bool false, .slice none 0 0], some (8, 9, 4), []⟩]) ⟨someNe, someNe, trivial⟩) (DisOld.all (bx := [⟨W2, some 5, 0, 3, .agg #[.bool false, .slice none 0 0], some (7, 8, 3), []⟩, ⟨W2, some 6, 0, 4, .agg #[.bool false, .slice none 0 0], some (8, 9, 4), []⟩]) ⟨someNe, someNe, trivial⟩) ?_ ?_
    · exact ⟨.norm 6 rfl rfl rfl (fun a_ w_ hn_ hBt hr hR hD hO hS => op_loadv R3ok ((hR 1 rfl).trans f1) (b1.keep hBt ⟨someNe, someNe, trivial⟩)),
        .norm 7 rfl rfl rfl (fun a_ w_ hn_ hBt hr hR hD hO hS => op_terms (isr_eq (show a_.eval (.tmp 6) = .agg #[.bool nr, .slice ar mr cr, .slice br kr dr] from hD 0 rfl) (Ar.rl hr) (Sr.rl hr) Vr Lr Mr) (by omega)),
        .norm 5 rfl rfl rfl (fun a_ w_ hn_ hBt hr hR hD hO hS => op_mvp (p := Tup2 (IsW ((tp pr qr)) ((Br) + 2)) (IsW ((tq qr)) ((Br) + 2))) (show Tup2 (IsW ((tp pr qr)) ((Br) + 2)) (IsW ((tq qr)) ((Br) + 2)) (a_.eval (.tmp 7)) w_ from hD 1 rfl)),
        .norm 8 rfl rfl rfl (fun a_ w_ hn_ hBt hr hR hD hO hS => op_ex20 (show Tup2 (IsW ((tp pr qr)) ((Br) + 2)) (IsW ((tq qr)) ((Br) + 2)) (a_.eval (.tmp 5)) w_ from hD 2 rfl)),
        .norm 9 rfl rfl rfl (fun a_ w_ hn_ hBt hr hR hD hO hS => op_ex21 (show Tup2 (IsW ((tp pr qr)) ((Br) + 2)) (IsW ((tq qr)) ((Br) + 2)) (a_.eval (.tmp 5)) w_ from hD 2 rfl)),
        .alloc 0 _ rfl rfl (.inl ⟨rfl, rfl⟩) rfl rfl rfl rfl rfl,
        .alloc 1 _ rfl rfl (.inl ⟨rfl, rfl⟩) rfl rfl rfl rfl rfl,
        .store 0 _ _ _ rfl rfl rfl rfl rfl rfl rfl (fun ia h => by cases h; rfl) rfl rfl rfl IsW.cs,
        .store 1 _ _ _ rfl rfl rfl rfl rfl rfl rfl (fun ia h => by cases h; rfl) rfl rfl rfl IsW.cs,
        trivial⟩
    · intro a2 w2 gs2 hn2 hd2 hBt hr hR hP hX hU
      replace hn := hn2; replace hd := hd2.trans hd
      have ne2_3 : (gs1 1) ≠ gs2 0 := by have h1 := b2.lt; have h2 := (hX 0 _ rfl).2.2.1 (by simp); omega
      have ne2_4 : (gs1 1) ≠ gs2 1 := by have h1 := b2.lt; have h2 := (hX 1 _ rfl).2.2.1 (by simp); omega
      replace b2 := b2.keep hBt ⟨someNe, someNe, trivial⟩
      obtain ⟨n_3, a_3, m_3, c_3, r_3, e8, A3, l3⟩ : IsW ((tp pr qr)) ((Br) + 2) (a2.eval (.tmp 8)) w2 := hP 3 (by decide)
      have b3 : BoxV W2 w2 (gs2 0) (.agg #[.bool n_3, .slice a_3 m_3 c_3]) := boxv_of (hX 0 _ rfl).2.2.2 e8
      have f3 := (hX 0 _ rfl).1
      have u3 : w.heap.size ≤ gs2 0 := Nat.le_trans HB.size ((hX 0 _ rfl).2.2.1 (by simp))
      obtain ⟨n_4, a_4, m_4, c_4, r_4, e9, A4, l4⟩ : IsW ((tq qr)) ((Br) + 2) (a2.eval (.tmp 9)) w2 := hP 4 (by decide)
      have b4 : BoxV W2 w2 (gs2 1) (.agg #[.bool n_4, .slice a_4 m_4 c_4]) := boxv_of (hX 1 _ rfl).2.2.2 e9
      have f4 := (hX 1 _ rfl).1
      have u4 : w.heap.size ≤ gs2 1 := Nat.le_trans HB.size ((hX 1 _ rfl).2.2.1 (by simp))
      replace f2 := (hR 2 rfl).trans f2
      replace Ar := Ar.rl hr
      replace Sr := Sr.rl hr
      replace Dr := Dr.rl hr
      replace HB := HB.trans (hBt.below HB.size (UpOld.all (bx := [⟨W2, some 5, 0, 3, .agg #[.bool false, .slice none 0 0], some (7, 8, 3), []⟩, ⟨W2, some 6, 0, 4, .agg #[.bool false, .slice none 0 0], some (8, 9, 4), []⟩]) ⟨someNe, someNe, trivial⟩))
      clear hBt hr hR hP hX hU
      refine wp_seq ?_
      refine region4 [some 10, some 11, some 12, some 13, none] [Eqs (.agg #[.bool n_3, .slice a_3 m_3 c_3]), OutW ((-(tp pr qr))) ((Br) + 2), Eqs (.agg #[.bool n_4, .slice a_4 m_4 c_4]), FrR (w.heap.size) ((nm (-(tp pr qr)) (tq qr))) ((dn (-(tp pr qr)) (tq qr))) (((Br) + 2) + ((Br) + 2)), (fun _ _ => True)] [⟨R3, none, (gs1 1), 2, .agg #[.bool false, .slice none 0 0, .slice none 0 0], some (4, 13, 3), []⟩] [] (by kernel_rfl) hn rfl (by kernel_rfl) (by kernel_rfl) (by kernel_rfl) (by kernel_rfl) (by kernel_rfl) (by kernel_rfl) ⟨Eqs.mono4 _, OutW.mono4 _ _, Eqs.mono4 _, FrR.mono4 _ _ _ _, True.mono4, trivial⟩ (ok_cons R3ok ok_nil) (IsOld.all (bx := [⟨R3, none, (gs1 1), 2, .agg #[.bool false, .slice none 0 0, .slice none 0 0], some (4, 13, 3), []⟩]) ⟨fun _ => ⟨f2, b2⟩, trivial⟩) (DisOld.all (bx := [⟨R3, none, (gs1 1), 2, .agg #[.bool false, .slice none 0 0, .slice none 0 0], some (4, 13, 3), []⟩]) ⟨fun _ => trivial, trivial⟩) ?_ ?_
      · exact ⟨.norm 10 rfl rfl rfl (fun a_ w_ hn_ hBt hr hR hD hO hS => op_loadv W2ok ((hR 3 rfl).trans f3) (b3.keep hBt ⟨fun _ => ne2_3, trivial⟩)),
          .norm 11 rfl rfl rfl (fun a_ w_ hn_ hBt hr hR hD hO hS => op_neg (isw_eq (show a_.eval (.tmp 10) = .agg #[.bool n_3, .slice a_3 m_3 c_3] from hD 0 rfl) (A3.rl hr) l3) (by omega)),
          .norm 12 rfl rfl rfl (fun a_ w_ hn_ hBt hr hR hD hO hS => op_loadv W2ok ((hR 4 rfl).trans f4) (b4.keep hBt ⟨fun _ => ne2_4, trivial⟩)),
          .norm 13 rfl rfl rfl (fun a_ w_ hn_ hBt hr hR hD hO hS => frlow (Nat.le_trans HB.size hr.size) (op_lowestF (show OutW ((-(tp pr qr))) ((Br) + 2) (a_.eval (.tmp 11)) w_ from hD 1 rfl).is (isw_eq (show a_.eval (.tmp 12) = .agg #[.bool n_4, .slice a_4 m_4 c_4] from hD 2 rfl) (A4.rl hr) l4) (by omega) (tq_ne _))),
          .store 0 _ _ _ rfl rfl rfl rfl rfl rfl rfl (fun ia h => by cases h) rfl rfl rfl FrR.cs,
          trivial⟩
      · intro a5 w5 gs5 hn5 hd5 hBt hr hR hP hX hU
        replace hn := hn5; replace hd := hd5.trans hd
        obtain ⟨T6, ft6, n_6, a_6, c_6, r_6, b_6, d_6, s_6, Bp6, Tp6, Bq6, Tq6, e13, F6, H6, fb6, fd6, l6, k6⟩ : FrR (w.heap.size) ((nm (-(tp pr qr)) (tq qr))) ((dn (-(tp pr qr)) (tq qr))) (((Br) + 2) + ((Br) + 2)) (a5.eval (.tmp 13)) w5 := hP 3 (by decide)
        have G6 := F6.wh; have K6 := H6.got; have A6 := G6.ag; have S6 := K6.sl; have V6 := K6.val; have HT6 : SzGe T6 w5 := ft6
        have b2 : BoxV R3 w5 ((gs1 1)) (.agg #[.bool n_6, .slice a_6 r_6.length c_6, .slice b_6 s_6.length d_6]) := boxv_old ((hX 0 _ rfl).2.1 rfl) (hX 0 _ rfl).2.2.2 e13
        replace f2 : a5.eval (.tmp 2) = _ := (hR 2 rfl).trans f2
        replace Ar := Ar.rl hr
        replace Sr := Sr.rl hr
        replace Dr := Dr.rl hr
        replace A3 := A3.rl hr
        replace A4 := A4.rl hr
        replace HB := HB.trans (hBt.below HB.size (UpOld.all (bx := [⟨R3, none, (gs1 1), 2, .agg #[.bool false, .slice none 0 0, .slice none 0 0], some (4, 13, 3), []⟩]) ⟨fun _ => u2, trivial⟩))
        clear hBt hr hR hP hX hU
        refine wp_ret ?_
        repeat (first | refine then_ret ?_ | refine scope_ret ?_ | refine block_ret ?_)
        exact bodyPost_ret (v := .agg #[.bool n_6, .slice a_6 r_6.length c_6, .slice b_6 s_6.length d_6]) (res_c rfl f2 (lv_R3 b2)) hd ⟨_, rfl, FrR.to ⟨_, HT6.le, _, _, _, _, _, _, _, _, _, _, _, rfl, F6, H6, fb6, fd6, l6, k6⟩ rfl rfl (by omega), HB⟩
theorem has_rnegF : Has Try.prog 19 := by unfold Has; kernel_rfl
theorem op_rnegF {dst : Option Tmp} {ty : TypeId} {pos : String} {after : Array Edge} {guard : Option (Nat × Bool)} {a : Act} {w : World} {ats : Array TypeId} {i : Nat} {Br : Nat} {pr qr : Int} (Hr : IsR pr qr Br (a.eval (.tmp i)) w) (hL : 2 * (Br + 2) ≤ 100000) :
    Does Try.prog { dst, op := .call { callee := .value (.func 19), args := #[.tmp i], argTypes := ats }, type := ty, pos, after, guard } a.eval w fun v w' => Below w.heap.size w w' ∧ (FrR w.heap.size (nm (-(tp pr qr)) (tq qr)) (dn (-(tp pr qr)) (tq qr)) (2 * (Br + 2))) v w' := by
  obtain ⟨nr, ar, mr, cr, rs, br, kr, dr, rt, er, Ar, Sr, Vr, Lr, Mr⟩ := Hr
  refine does_call has_rnegF _ (by simp only [List.map_toArray, List.map_cons, List.map_nil, er]) ((rnegF_z w Br _ _ _ _ _ _ Ar Lr _ _ _ _ _ Sr Vr Mr hL).mono ?_)
  rintro e w' ⟨v, rfl, h1, hb⟩
  exact ⟨_, rfl, hb, h1⟩
set_option maxRecDepth 20000 in
set_option maxHeartbeats 2000000 in
theorem rdivideF_z (w : World) (Br : Nat) (nr : Bool) (ar : Option Addr) (mr cr : Nat) (rs : List Int) (pr : Int) (Ar : Ag w nr ar mr cr rs pr) (Lr : rs.length ≤ Br) (br : Option Addr) (kr dr : Nat) (rt : List Int) (qr : Int) (Sr : Sl w (.slice br kr dr) rt) (Vr : val rt = qr) (Mr : rt.length ≤ Br) (hL : Br ≤ 100000) :
    Calls Try.prog 48 #[.agg #[.bool nr, .slice ar mr cr, .slice br kr dr]] w fun e w' => ∃ v, e = .returned v ∧ (Tup2 (FrW w.heap.size (tp pr qr / tq qr) (Br + 6)) (OutW (tp pr qr % tq qr) (Br + 6))) v w' ∧ Below w.heap.size w w' := by
  go_enter Try.func48, Try.ntmps48
  generalize hA : (Act.mk _ _) = aa
  have hn : aa.tmps.size = 20 := by rw [← hA]; rfl
  have hd : aa.defers = [] := by rw [← hA]
  have f0 : aa.eval (.tmp 0) = .agg #[.bool nr, .slice ar mr cr, .slice br kr dr] := by rw [← hA]; rfl
  clear hA
  have HB : Below w.heap.size w w := Below.refl _ _
  have Dr : Ag w false br kr dr rt qr := ⟨Sr, Vr⟩
  refine wp_seq ?_
  refine region4 [some 1, some 2, some 3] [(fun _ _ => True), (fun _ _ => True), (fun _ _ => True)] [⟨R3, some 0, 0, 1, .agg #[.bool nr, .slice ar mr cr, .slice br kr dr], none, []⟩, ⟨W2, some 1, 0, 2, .agg #[.bool false, .slice none 0 0], none, []⟩, ⟨W2, some 2, 0, 3, .agg #[.bool false, .slice none 0 0], none, []⟩] [] (by kernel_rfl) hn rfl (by kernel_rfl) (by kernel_rfl) (by kernel_rfl) (by kernel_rfl) (by kernel_rfl) (by kernel_rfl) ⟨True.mono4, True.mono4, True.mono4, trivial⟩ (ok_cons R3ok (ok_cons W2ok (ok_cons W2ok ok_nil))) (IsOld.all (bx := [⟨R3, some 0, 0, 1, .agg #[.bool nr, .slice ar mr cr, .slice br kr dr], none, []⟩, ⟨W2, some 1, 0, 2, .agg #[.bool false, .slice none 0 0], none, []⟩, ⟨W2, some 2, 0, 3, .agg #[.bool false, .slice none 0 0], none, []⟩]) ⟨someNe, someNe, someNe, trivial⟩) (DisOld.all (bx := [⟨R3, some 0, 0, 1, .agg #[.bool nr, .slice ar mr cr, .slice br kr dr], none, []⟩, ⟨W2, some 1, 0, 2, .agg #[.bool false, .slice none 0 0], none, []⟩, ⟨W2, some 2, 0, 3, .agg #[.bool false, .slice none 0 0], none, []⟩]) ⟨someNe, someNe, someNe, trivial⟩) ?_ ?_
  · exact ⟨.alloc 0 _ rfl rfl (.inr ⟨_, rfl, r3_cs, fun a_ hR => (hR 0 rfl).trans f0⟩) rfl rfl rfl rfl rfl,
      .alloc 1 _ rfl rfl (.inl ⟨rfl, rfl⟩) rfl rfl rfl rfl rfl,
      .alloc 2 _ rfl rfl (.inl ⟨rfl, rfl⟩) rfl rfl rfl rfl rfl,
      trivial⟩
  · intro a1 w1 gs1 hn1 hd1 hBt hr hR hP hX hU
    replace hn := hn1; replace hd := hd1.trans hd
    have ne1_2 : gs1 0 ≠ gs1 1 := hU 0 1 (by simp) (by simp) (by decide)
    have ne1_3 : gs1 0 ≠ gs1 2 := hU 0 2 (by simp) (by simp) (by decide)
    have ne2_3 : gs1 1 ≠ gs1 2 := hU 1 2 (by simp) (by simp) (by decide)
    have b1 : BoxV R3 w1 (gs1 0) (.agg #[.bool nr, .slice ar mr cr, .slice br kr dr]) := (hX 0 _ rfl).2.2.2
    have f1 := (hX 0 _ rfl).1
    have u1 : w.heap.size ≤ gs1 0 := Nat.le_trans HB.size ((hX 0 _ rfl).2.2.1 (by simp))
    have b2 : BoxV W2 w1 (gs1 1) (.agg #[.bool false, .slice none 0 0]) := (hX 1 _ rfl).2.2.2
    have f2 := (hX 1 _ rfl).1
    have u2 : w.heap.size ≤ gs1 1 := Nat.le_trans HB.size ((hX 1 _ rfl).2.2.1 (by simp))
    have b3 : BoxV W2 w1 (gs1 2) (.agg #[.bool false, .slice none 0 0]) := (hX 2 _ rfl).2.2.2
    have f3 := (hX 2 _ rfl).1
    have u3 : w.heap.size ≤ gs1 2 := Nat.le_trans HB.size ((hX 2 _ rfl).2.2.1 (by simp))
    replace Ar := Ar.rl hr
    replace Sr := Sr.rl hr
    replace Dr := Dr.rl hr
    replace HB := HB.trans (hBt.below HB.size (UpOld.all (bx := [⟨R3, some 0, 0, 1, .agg #[.bool nr, .slice ar mr cr, .slice br kr dr], none, []⟩, ⟨W2, some 1, 0, 2, .agg #[.bool false, .slice none 0 0], none, []⟩, ⟨W2, some 2, 0, 3, .agg #[.bool false, .slice none 0 0], none, []⟩]) ⟨someNe, someNe, someNe, trivial⟩))
    clear hBt hr hR hP hX hU
    refine wp_seq ?_
    refine region4 [some 7, some 8, some 6, some 9, some 10, some 4, some 5, none, none] [Eqs (.agg #[.bool nr, .slice ar mr cr, .slice br kr dr]), Tup2 (IsW ((tp pr qr)) ((Br) + 2)) (IsW ((tq qr)) ((Br) + 2)), Tup2 (IsW ((tp pr qr)) ((Br) + 2)) (IsW ((tq qr)) ((Br) + 2)), IsW ((tp pr qr)) ((Br) + 2), IsW ((tq qr)) ((Br) + 2), (fun _ _ => True), (fun _ _ => True), (fun _ _ => True), (fun _ _ => True)] [⟨W2, some 5, 0, 4, .agg #[.bool false, .slice none 0 0], some (7, 9, 3), []⟩, ⟨W2, some 6, 0, 5, .agg #[.bool false, .slice none 0 0], some (8, 10, 4), []⟩] [] (by kernel_rfl) hn rfl (by kernel_rfl) (by kernel_rfl) (by kernel_rfl) (by kernel_rfl) (by kernel_rfl) (by kernel_rfl) ⟨Eqs.mono4 _, Tup2.mono4 (IsW.mono4 _ _) (IsW.mono4 _ _), Tup2.mono4 (IsW.mono4 _ _) (IsW.mono4 _ _), IsW.mono4 _ _, IsW.mono4 _ _, True.mono4, True.mono4, True.mono4, True.mono4, trivial⟩ (ok_cons W2ok (ok_cons W2ok ok_nil)) (IsOld.all (bx := [⟨W2, some 5, 0, 4, .agg #[.bool false, .slice none 0 0], some (7, 9, 3), []⟩, ⟨W2, some 6, 0, 5, .agg #[.bool false, .slice none 0 0], some (8, 10, 4), []⟩]) ⟨someNe, someNe, trivial⟩) (DisOld.all (bx := [⟨W2, some 5, 0, 4, .agg #[.bool false, .slice none 0 0], some (7, 9, 3), []⟩, ⟨W2, some 6, 0, 5, .agg #[.bool false, .slice none 0 0], some (8, 10, 4), []⟩]) ⟨someNe, someNe, trivial⟩) ?_ ?_
    · exact ⟨.norm 7 rfl rfl rfl (fun a_ w_ hn_ hBt hr hR hD hO hS => op_loadv R3ok ((hR 1 rfl).trans f1) (b1.keep hBt ⟨someNe, someNe, trivial⟩)),
        .norm 8 rfl rfl rfl (fun a_ w_ hn_ hBt hr hR hD hO hS => op_terms (isr_eq (show a_.eval (.tmp 7) = .agg #[.bool nr, .slice ar mr cr, .slice br kr dr] from hD 0 rfl) (Ar.rl hr) (Sr.rl hr) Vr Lr Mr) (by omega)),
        .norm 6 rfl rfl rfl (fun a_ w_ hn_ hBt hr hR hD hO hS => op_mvp (p := Tup2 (IsW ((tp pr qr)) ((Br) + 2)) (IsW ((tq qr)) ((Br) + 2))) (show Tup2 (IsW ((tp pr qr)) ((Br) + 2)) (IsW ((tq qr)) ((Br) + 2)) (a_.eval (.tmp 8)) w_ from hD 1 rfl)),
        .norm 9 rfl rfl rfl (fun a_ w_ hn_ hBt hr hR hD hO hS => op_ex20 (show Tup2 (IsW ((tp pr qr)) ((Br) + 2)) (IsW ((tq qr)) ((Br) + 2)) (a_.eval (.tmp 6)) w_ from hD 2 rfl)),
        .norm 10 rfl rfl rfl (fun a_ w_ hn_ hBt hr hR hD hO hS => op_ex21 (show Tup2 (IsW ((tp pr qr)) ((Br) + 2)) (IsW ((tq qr)) ((Br) + 2)) (a_.eval (.tmp 6)) w_ from hD 2 rfl)),
        .alloc 0 _ rfl rfl (.inl ⟨rfl, rfl⟩) rfl rfl rfl rfl rfl,
        .alloc 1 _ rfl rfl (.inl ⟨rfl, rfl⟩) rfl rfl rfl rfl rfl,
        .store 0 _ _ _ rfl rfl rfl rfl rfl rfl rfl (fun ia h => by cases h; rfl) rfl rfl rfl IsW.cs,
        .store 1 _ _ _ rfl rfl rfl rfl rfl rfl rfl (fun ia h => by cases h; rfl) rfl rfl rfl IsW.cs,
        trivial⟩
    · intro a2 w2 gs2 hn2 hd2 hBt hr hR hP hX hU
      replace hn := hn2; replace hd := hd2.trans hd
      have ne2_4 : (gs1 1) ≠ gs2 0 := by have h1 := b2.lt; have h2 := (hX 0 _ rfl).2.2.1 (by simp); omega
      have ne3_4 : (gs1 2) ≠ gs2 0 := by have h1 := b3.lt; have h2 := (hX 0 _ rfl).2.2.1 (by simp); omega
      have ne2_5 : (gs1 1) ≠ gs2 1 := by have h1 := b2.lt; have h2 := (hX 1 _ rfl).2.2.1 (by simp); omega
      have ne3_5 : (gs1 2) ≠ gs2 1 := by have h1 := b3.lt; have h2 := (hX 1 _ rfl).2.2.1 (by simp); omega
      replace b2 := b2.keep hBt ⟨someNe, someNe, trivial⟩
      replace b3 := b3.keep hBt ⟨someNe, someNe, trivial⟩
      obtain ⟨n_3, a_3, m_3, c_3, r_3, e9, A3, l3⟩ : IsW ((tp pr qr)) ((Br) + 2) (a2.eval (.tmp 9)) w2 := hP 3 (by decide)
      have b4 : BoxV W2 w2 (gs2 0) (.agg #[.bool n_3, .slice a_3 m_3 c_3]) := boxv_of (hX 0 _ rfl).2.2.2 e9
      have f4 := (hX 0 _ rfl).1
      have u4 : w.heap.size ≤ gs2 0 := Nat.le_trans HB.size ((hX 0 _ rfl).2.2.1 (by simp))
      obtain ⟨n_4, a_4, m_4, c_4, r_4, e10, A4, l4⟩ : IsW ((tq qr)) ((Br) + 2) (a2.eval (.tmp 10)) w2 := hP 4 (by decide)
      have b5 : BoxV W2 w2 (gs2 1) (.agg #[.bool n_4, .slice a_4 m_4 c_4]) := boxv_of (hX 1 _ rfl).2.2.2 e10
      have f5 := (hX 1 _ rfl).1
      have u5 : w.heap.size ≤ gs2 1 := Nat.le_trans HB.size ((hX 1 _ rfl).2.2.1 (by simp))
      replace f2 := (hR 2 rfl).trans f2
      replace f3 := (hR 3 rfl).trans f3
      replace Ar := Ar.rl hr
      replace Sr := Sr.rl hr
      replace Dr := Dr.rl hr
      replace HB := HB.trans (hBt.below HB.size (UpOld.all (bx := [⟨W2, some 5, 0, 4, .agg #[.bool false, .slice none 0 0], some (7, 9, 3), []⟩, ⟨W2, some 6, 0, 5, .agg #[.bool false, .slice none 0 0], some (8, 10, 4), []⟩]) ⟨someNe, someNe, trivial⟩))
      clear hBt hr hR hP hX hU
      refine wp_seq ?_
      refine region4 [some 12, some 13, some 14, some 11, some 15, some 16, some 17, none, none] [Eqs (.agg #[.bool n_3, .slice a_3 m_3 c_3]), Eqs (.agg #[.bool n_4, .slice a_4 m_4 c_4]), Tup3 (FrW (w.heap.size) (((tp pr qr) / (tq qr))) (((Br) + 2) + 4)) (OutW (((tp pr qr) % (tq qr))) ((Br) + 2)) (Eqs (.bool true)), Tup3 (FrW (w.heap.size) (((tp pr qr) / (tq qr))) (((Br) + 2) + 4)) (OutW (((tp pr qr) % (tq qr))) ((Br) + 2)) (Eqs (.bool true)), FrW (w.heap.size) (((tp pr qr) / (tq qr))) (((Br) + 2) + 4), OutW (((tp pr qr) % (tq qr))) ((Br) + 2), Eqs (.bool true), (fun _ _ => True), (fun _ _ => True)] [⟨W2, none, (gs1 1), 2, .agg #[.bool false, .slice none 0 0], some (7, 15, 4), []⟩, ⟨W2, none, (gs1 2), 3, .agg #[.bool false, .slice none 0 0], some (8, 16, 5), []⟩] [] (by kernel_rfl) hn rfl (by kernel_rfl) (by kernel_rfl) (by kernel_rfl) (by kernel_rfl) (by kernel_rfl) (by kernel_rfl) ⟨Eqs.mono4 _, Eqs.mono4 _, Tup3.mono4 (FrW.mono4 _ _ _) (OutW.mono4 _ _) (Eqs.mono4 _), Tup3.mono4 (FrW.mono4 _ _ _) (OutW.mono4 _ _) (Eqs.mono4 _), FrW.mono4 _ _ _, OutW.mono4 _ _, Eqs.mono4 _, True.mono4, True.mono4, trivial⟩ (ok_cons W2ok (ok_cons W2ok ok_nil)) (IsOld.all (bx := [⟨W2, none, (gs1 1), 2, .agg #[.bool false, .slice none 0 0], some (7, 15, 4), []⟩, ⟨W2, none, (gs1 2), 3, .agg #[.bool false, .slice none 0 0], some (8, 16, 5), []⟩]) ⟨fun _ => ⟨f2, b2⟩, fun _ => ⟨f3, b3⟩, trivial⟩) (DisOld.all (bx := [⟨W2, none, (gs1 1), 2, .agg #[.bool false, .slice none 0 0], some (7, 15, 4), []⟩, ⟨W2, none, (gs1 2), 3, .agg #[.bool false, .slice none 0 0], some (8, 16, 5), []⟩]) ⟨fun _ => ⟨fun _ => ne2_3.symm, trivial⟩, fun _ => trivial, trivial⟩) ?_ ?_
      · exact ⟨.norm 12 rfl rfl rfl (fun a_ w_ hn_ hBt hr hR hD hO hS => op_loadv W2ok ((hR 4 rfl).trans f4) (b4.keep hBt ⟨fun _ => ne2_4, fun _ => ne3_4, trivial⟩)),
          .norm 13 rfl rfl rfl (fun a_ w_ hn_ hBt hr hR hD hO hS => op_loadv W2ok ((hR 5 rfl).trans f5) (b5.keep hBt ⟨fun _ => ne2_5, fun _ => ne3_5, trivial⟩)),
          .norm 14 rfl rfl rfl (fun a_ w_ hn_ hBt hr hR hD hO hS => op_wdivF (isw_eq (show a_.eval (.tmp 12) = .agg #[.bool n_3, .slice a_3 m_3 c_3] from hD 0 rfl) (A3.rl hr) l3) (isw_eq (show a_.eval (.tmp 13) = .agg #[.bool n_4, .slice a_4 m_4 c_4] from hD 1 rfl) (A4.rl hr) l4) (by omega) (by omega) (tq_ne _) (Nat.le_trans HB.size hr.size)),
          .norm 11 rfl rfl rfl (fun a_ w_ hn_ hBt hr hR hD hO hS => op_mvp (p := Tup3 (FrW (w.heap.size) (((tp pr qr) / (tq qr))) (((Br) + 2) + 4)) (OutW (((tp pr qr) % (tq qr))) ((Br) + 2)) (Eqs (.bool true))) (show Tup3 (FrW (w.heap.size) (((tp pr qr) / (tq qr))) (((Br) + 2) + 4)) (OutW (((tp pr qr) % (tq qr))) ((Br) + 2)) (Eqs (.bool true)) (a_.eval (.tmp 14)) w_ from hD 2 rfl)),
          .norm 15 rfl rfl rfl (fun a_ w_ hn_ hBt hr hR hD hO hS => op_ex30 (show Tup3 (FrW (w.heap.size) (((tp pr qr) / (tq qr))) (((Br) + 2) + 4)) (OutW (((tp pr qr) % (tq qr))) ((Br) + 2)) (Eqs (.bool true)) (a_.eval (.tmp 11)) w_ from hD 3 rfl)),
          .norm 16 rfl rfl rfl (fun a_ w_ hn_ hBt hr hR hD hO hS => op_ex31 (show Tup3 (FrW (w.heap.size) (((tp pr qr) / (tq qr))) (((Br) + 2) + 4)) (OutW (((tp pr qr) % (tq qr))) ((Br) + 2)) (Eqs (.bool true)) (a_.eval (.tmp 11)) w_ from hD 3 rfl)),
          .norm 17 rfl rfl rfl (fun a_ w_ hn_ hBt hr hR hD hO hS => op_ex32 (show Tup3 (FrW (w.heap.size) (((tp pr qr) / (tq qr))) (((Br) + 2) + 4)) (OutW (((tp pr qr) % (tq qr))) ((Br) + 2)) (Eqs (.bool true)) (a_.eval (.tmp 11)) w_ from hD 3 rfl)),
          .store 0 _ _ _ rfl rfl rfl rfl rfl rfl rfl (fun ia h => by cases h) rfl rfl rfl FrW.cs,
          .store 1 _ _ _ rfl rfl rfl rfl rfl rfl rfl (fun ia h => by cases h) rfl rfl rfl OutW.cs,
          trivial⟩
      · intro a5 w5 gs5 hn5 hd5 hBt hr hR hP hX hU
        replace hn := hn5; replace hd := hd5.trans hd
        obtain ⟨n_6, a_6, c_6, r_6, B6, T6, e15, F6, fb6, ft6, l6⟩ : FrW (w.heap.size) (((tp pr qr) / (tq qr))) (((Br) + 2) + 4) (a5.eval (.tmp 15)) w5 := hP 4 (by decide)
        have G6 := F6.wh; have A6 := G6.ag
        have HT6 : SzGe T6 w5 := ft6
        have b2 : BoxV W2 w5 ((gs1 1)) (.agg #[.bool n_6, .slice a_6 r_6.length c_6]) := boxv_old ((hX 0 _ rfl).2.1 rfl) (hX 0 _ rfl).2.2.2 e15
        replace f2 : a5.eval (.tmp 2) = _ := (hR 2 rfl).trans f2
        obtain ⟨n_7, a_7, c_7, r_7, e16, G7, l7⟩ : OutW (((tp pr qr) % (tq qr))) ((Br) + 2) (a5.eval (.tmp 16)) w5 := hP 5 (by decide)
        have A7 := G7.ag
        have b3 : BoxV W2 w5 ((gs1 2)) (.agg #[.bool n_7, .slice a_7 r_7.length c_7]) := boxv_old ((hX 1 _ rfl).2.1 rfl) (hX 1 _ rfl).2.2.2 e16
        replace f3 : a5.eval (.tmp 3) = _ := (hR 3 rfl).trans f3
        replace Ar := Ar.rl hr
        replace Sr := Sr.rl hr
        replace Dr := Dr.rl hr
        replace A3 := A3.rl hr
        replace A4 := A4.rl hr
        replace HB := HB.trans (hBt.below HB.size (UpOld.all (bx := [⟨W2, none, (gs1 1), 2, .agg #[.bool false, .slice none 0 0], some (7, 15, 4), []⟩, ⟨W2, none, (gs1 2), 3, .agg #[.bool false, .slice none 0 0], some (8, 16, 5), []⟩]) ⟨fun _ => u2, fun _ => u3, trivial⟩))
        clear hBt hr hR hP hX hU
        refine wp_seq ?_
        refine region4 [some 18, some 19, none, none] [Eqs (.agg #[.bool n_6, .slice a_6 r_6.length c_6]), Eqs (.agg #[.bool n_7, .slice a_7 r_7.length c_7]), (fun _ _ => True), (fun _ _ => True)] [⟨W2, none, (gs1 1), 2, .agg #[.bool n_6, .slice a_6 r_6.length c_6], some (2, 18, 0), [0]⟩, ⟨W2, none, (gs1 2), 3, .agg #[.bool n_7, .slice a_7 r_7.length c_7], some (3, 19, 1), [1]⟩] [] (by kernel_rfl) hn rfl (by kernel_rfl) (by kernel_rfl) (by kernel_rfl) (by kernel_rfl) (by kernel_rfl) (by kernel_rfl) ⟨Eqs.mono4 _, Eqs.mono4 _, True.mono4, True.mono4, trivial⟩ (ok_cons W2ok (ok_cons W2ok ok_nil)) (IsOld.all (bx := [⟨W2, none, (gs1 1), 2, .agg #[.bool n_6, .slice a_6 r_6.length c_6], some (2, 18, 0), [0]⟩, ⟨W2, none, (gs1 2), 3, .agg #[.bool n_7, .slice a_7 r_7.length c_7], some (3, 19, 1), [1]⟩]) ⟨fun _ => ⟨f2, b2⟩, fun _ => ⟨f3, b3⟩, trivial⟩) (DisOld.all (bx := [⟨W2, none, (gs1 1), 2, .agg #[.bool n_6, .slice a_6 r_6.length c_6], some (2, 18, 0), [0]⟩, ⟨W2, none, (gs1 2), 3, .agg #[.bool n_7, .slice a_7 r_7.length c_7], some (3, 19, 1), [1]⟩]) ⟨fun _ => ⟨fun _ => ne2_3.symm, trivial⟩, fun _ => trivial, trivial⟩) ?_ ?_
        · exact ⟨.norm 18 rfl rfl rfl (fun a_ w_ hn_ hBt hr hR hD hO hS => op_loadv W2ok ((hR 2 rfl).trans f2) (hO 0 _ rfl rfl rfl)),
            .norm 19 rfl rfl rfl (fun a_ w_ hn_ hBt hr hR hD hO hS => op_loadv W2ok ((hR 3 rfl).trans f3) (hO 1 _ rfl rfl rfl)),
            .store 0 _ _ _ rfl rfl rfl rfl rfl rfl rfl (fun ia h => by cases h) rfl rfl rfl (eqs_cs w2_cs),
            .store 1 _ _ _ rfl rfl rfl rfl rfl rfl rfl (fun ia h => by cases h) rfl rfl rfl (eqs_cs w2_cs),
            trivial⟩
        · intro a8 w8 gs8 hn8 hd8 hBt hr hR hP hX hU
          replace hn := hn8; replace hd := hd8.trans hd
          have e18 : a8.eval (.tmp 18) = .agg #[.bool n_6, .slice a_6 r_6.length c_6] := hP 0 (by decide)
          have b2 : BoxV W2 w8 ((gs1 1)) (.agg #[.bool n_6, .slice a_6 r_6.length c_6]) := boxv_old ((hX 0 _ rfl).2.1 rfl) (hX 0 _ rfl).2.2.2 e18
          replace f2 : a8.eval (.tmp 2) = _ := (hR 2 rfl).trans f2
          have e19 : a8.eval (.tmp 19) = .agg #[.bool n_7, .slice a_7 r_7.length c_7] := hP 1 (by decide)
          have b3 : BoxV W2 w8 ((gs1 2)) (.agg #[.bool n_7, .slice a_7 r_7.length c_7]) := boxv_old ((hX 1 _ rfl).2.1 rfl) (hX 1 _ rfl).2.2.2 e19
          replace f3 : a8.eval (.tmp 3) = _ := (hR 3 rfl).trans f3
          replace Ar := Ar.rl hr
          replace Sr := Sr.rl hr
          replace Dr := Dr.rl hr
          replace A3 := A3.rl hr
          replace A4 := A4.rl hr
          replace F6 := F6.rl hr
          replace G6 := G6.rl hr
          replace A6 := A6.rl hr
          replace HT6 := HT6.rl hr
          replace G7 := G7.rl hr
          replace A7 := A7.rl hr
          replace HB := HB.trans (hBt.below HB.size (UpOld.all (bx := [⟨W2, none, (gs1 1), 2, .agg #[.bool n_6, .slice a_6 r_6.length c_6], some (2, 18, 0), [0]⟩, ⟨W2, none, (gs1 2), 3, .agg #[.bool n_7, .slice a_7 r_7.length c_7], some (3, 19, 1), [1]⟩]) ⟨fun _ => u2, fun _ => u3, trivial⟩))
          clear hBt hr hR hP hX hU
          refine wp_ret ?_
          repeat (first | refine then_ret ?_ | refine scope_ret ?_ | refine block_ret ?_)
          exact bodyPost_ret (v := .tuple #[.agg #[.bool n_6, .slice a_6 r_6.length c_6], .agg #[.bool n_7, .slice a_7 r_7.length c_7]]) (res_cc rfl f2 (lv_W2 b2) f3 (lv_W2 b3)) hd ⟨_, rfl, ⟨_, _, rfl, frw_eq F6 fb6 HT6.le l6 (by omega), OutW.to (outw_eq rfl G7 l7) rfl (by omega)⟩, HB⟩
theorem has_rdivideF : Has Try.prog 48 := by unfold Has; kernel_rfl
theorem op_rdivideF {dst : Option Tmp} {ty : TypeId} {pos : String} {after : Array Edge} {guard : Option (Nat × Bool)} {a : Act} {w : World} {ats : Array TypeId} {i : Nat} {Br : Nat} {pr qr : Int} (Hr : IsR pr qr Br (a.eval (.tmp i)) w) (hL : Br ≤ 100000) :
    Does Try.prog { dst, op := .call { callee := .value (.func 48), args := #[.tmp i], argTypes := ats }, type := ty, pos, after, guard } a.eval w fun v w' => Below w.heap.size w w' ∧ (Tup2 (FrW w.heap.size (tp pr qr / tq qr) (Br + 6)) (OutW (tp pr qr % tq qr) (Br + 6))) v w' := by
  obtain ⟨nr, ar, mr, cr, rs, br, kr, dr, rt, er, Ar, Sr, Vr, Lr, Mr⟩ := Hr
  refine does_call has_rdivideF _ (by simp only [List.map_toArray, List.map_cons, List.map_nil, er]) ((rdivideF_z w Br _ _ _ _ _ _ Ar Lr _ _ _ _ _ Sr Vr Mr hL).mono ?_)
  rintro e w' ⟨v, rfl, h1, hb⟩
  exact ⟨_, rfl, hb, h1⟩
set_option maxRecDepth 20000 in
set_option maxHeartbeats 2000000 in
theorem rfloorF_z (w : World) (Br : Nat) (nr : Bool) (ar : Option Addr) (mr cr : Nat) (rs : List Int) (pr : Int) (Ar : Ag w nr ar mr cr rs pr) (Lr : rs.length ≤ Br) (br : Option Addr) (kr dr : Nat) (rt : List Int) (qr : Int) (Sr : Sl w (.slice br kr dr) rt) (Vr : val rt = qr) (Mr : rt.length ≤ Br) (hL : Br ≤ 100000) :
    Calls Try.prog 18 #[.agg #[.bool nr, .slice ar mr cr, .slice br kr dr]] w fun e w' => ∃ v, e = .returned v ∧ (FrW w.heap.size (tp pr qr / tq qr) (Br + 6)) v w' ∧ Below w.heap.size w w' := by
  go_enter Try.func18, Try.ntmps18
  generalize hA : (Act.mk _ _) = aa
  have hn : aa.tmps.size = 11 := by rw [← hA]; rfl
  have hd : aa.defers = [] := by rw [← hA]
  have f0 : aa.eval (.tmp 0) = .agg #[.bool nr, .slice ar mr cr, .slice br kr dr] := by rw [← hA]; rfl
  clear hA
  have HB : Below w.heap.size w w := Below.refl _ _
  have Dr : Ag w false br kr dr rt qr := ⟨Sr, Vr⟩
  refine wp_seq ?_
  refine region4 [some 1, some 2] [(fun _ _ => True), (fun _ _ => True)] [⟨R3, some 0, 0, 1, .agg #[.bool nr, .slice ar mr cr, .slice br kr dr], none, []⟩, ⟨W2, some 1, 0, 2, .agg #[.bool false, .slice none 0 0], none, []⟩] [] (by kernel_rfl) hn rfl (by kernel_rfl) (by kernel_rfl) (by kernel_rfl) (by kernel_rfl) (by kernel_rfl) (by kernel_rfl) ⟨True.mono4, True.mono4, trivial⟩ (ok_cons R3ok (ok_cons W2ok ok_nil)) (IsOld.all (bx := [⟨R3, some 0, 0, 1, .agg #[.bool nr, .slice ar mr cr, .slice br kr dr], none, []⟩, ⟨W2, some 1, 0, 2, .agg #[.bool false, .slice none 0 0], none, []⟩]) ⟨someNe, someNe, trivial⟩) (DisOld.all (bx := [⟨R3, some 0, 0, 1, .agg #[.bool nr, .slice ar mr cr, .slice br kr dr], none, []⟩, ⟨W2, some 1, 0, 2, .agg #[.bool false, .slice none 0 0], none, []⟩]) ⟨someNe, someNe, trivial⟩) ?_ ?_
  · exact ⟨.alloc 0 _ rfl rfl (.inr ⟨_, rfl, r3_cs, fun a_ hR => (hR 0 rfl).trans f0⟩) rfl rfl rfl rfl rfl,
      .alloc 1 _ rfl rfl (.inl ⟨rfl, rfl⟩) rfl rfl rfl rfl rfl,
      trivial⟩
  · intro a1 w1 gs1 hn1 hd1 hBt hr hR hP hX hU
    replace hn := hn1; replace hd := hd1.trans hd
    have ne1_2 : gs1 0 ≠ gs1 1 := hU 0 1 (by simp) (by simp) (by decide)
    have b1 : BoxV R3 w1 (gs1 0) (.agg #[.bool nr, .slice ar mr cr, .slice br kr dr]) := (hX 0 _ rfl).2.2.2
    have f1 := (hX 0 _ rfl).1
    have u1 : w.heap.size ≤ gs1 0 := Nat.le_trans HB.size ((hX 0 _ rfl).2.2.1 (by simp))
    have b2 : BoxV W2 w1 (gs1 1) (.agg #[.bool false, .slice none 0 0]) := (hX 1 _ rfl).2.2.2
    have f2 := (hX 1 _ rfl).1
    have u2 : w.heap.size ≤ gs1 1 := Nat.le_trans HB.size ((hX 1 _ rfl).2.2.1 (by simp))
    replace Ar := Ar.rl hr
    replace Sr := Sr.rl hr
    replace Dr := Dr.rl hr
    replace HB := HB.trans (hBt.below HB.size (UpOld.all (bx := [⟨R3, some 0, 0, 1, .agg #[.bool nr, .slice ar mr cr, .slice br kr dr], none, []⟩, ⟨W2, some 1, 0, 2, .agg #[.bool false, .slice none 0 0], none, []⟩]) ⟨someNe, someNe, trivial⟩))
    clear hBt hr hR hP hX hU
    refine wp_seq ?_
    refine region4 [some 6, some 7, some 5, some 8, some 9, some 3, some 4, none, none] [Eqs (.agg #[.bool nr, .slice ar mr cr, .slice br kr dr]), Tup2 (FrW (w.heap.size) ((tp pr qr / tq qr)) ((Br) + 6)) (OutW ((tp pr qr % tq qr)) ((Br) + 6)), Tup2 (FrW (w.heap.size) ((tp pr qr / tq qr)) ((Br) + 6)) (OutW ((tp pr qr % tq qr)) ((Br) + 6)), FrW (w.heap.size) ((tp pr qr / tq qr)) ((Br) + 6), OutW ((tp pr qr % tq qr)) ((Br) + 6), (fun _ _ => True), (fun _ _ => True), (fun _ _ => True), (fun _ _ => True)] [⟨W2, some 5, 0, 3, .agg #[.bool false, .slice none 0 0], some (7, 8, 3), []⟩, ⟨W2, some 6, 0, 4, .agg #[.bool false, .slice none 0 0], some (8, 9, 4), []⟩] [] (by kernel_rfl) hn rfl (by kernel_rfl) (by kernel_rfl) (by kernel_rfl) (by kernel_rfl) (by kernel_rfl) (by kernel_rfl) ⟨Eqs.mono4 _, Tup2.mono4 (FrW.mono4 _ _ _) (OutW.mono4 _ _), Tup2.mono4 (FrW.mono4 _ _ _) (OutW.mono4 _ _), FrW.mono4 _ _ _, OutW.mono4 _ _, True.mono4, True.mono4, True.mono4, True.mono4, trivial⟩ (ok_cons W2ok (ok_cons W2ok ok_nil)) (IsOld.all (bx := [⟨W2, some 5, 0, 3, .agg #[.bool false, .slice none 0 0], some (7, 8, 3), []⟩, ⟨W2, some 6, 0, 4, .agg #[.bool false, .slice none 0 0], some (8, 9, 4), []⟩]) ⟨someNe, someNe, trivial⟩) (DisOld.all (bx := [⟨W2, some 5, 0, 3, .agg #[.bool false, .slice none 0 0], some (7, 8, 3), []⟩, ⟨W2, some 6, 0, 4, .agg #[.bool false, .slice none 0 0], some (8, 9, 4), []⟩]) ⟨someNe, someNe, trivial⟩) ?_ ?_
    · exact ⟨.norm 6 rfl rfl rfl (fun a_ w_ hn_ hBt hr hR hD hO hS => op_loadv R3ok ((hR 1 rfl).trans f1) (b1.keep hBt ⟨someNe, someNe, trivial⟩)),
        .norm 7 rfl rfl rfl (fun a_ w_ hn_ hBt hr hR hD hO hS => frwlow (Nat.le_trans HB.size hr.size) (op_rdivideF (isr_eq (show a_.eval (.tmp 6) = .agg #[.bool nr, .slice ar mr cr, .slice br kr dr] from hD 0 rfl) (Ar.rl hr) (Sr.rl hr) Vr Lr Mr) (by omega))),
        .norm 5 rfl rfl rfl (fun a_ w_ hn_ hBt hr hR hD hO hS => op_mvp (p := Tup2 (FrW (w.heap.size) ((tp pr qr / tq qr)) ((Br) + 6)) (OutW ((tp pr qr % tq qr)) ((Br) + 6))) (show Tup2 (FrW (w.heap.size) ((tp pr qr / tq qr)) ((Br) + 6)) (OutW ((tp pr qr % tq qr)) ((Br) + 6)) (a_.eval (.tmp 7)) w_ from hD 1 rfl)),
        .norm 8 rfl rfl rfl (fun a_ w_ hn_ hBt hr hR hD hO hS => op_ex20 (show Tup2 (FrW (w.heap.size) ((tp pr qr / tq qr)) ((Br) + 6)) (OutW ((tp pr qr % tq qr)) ((Br) + 6)) (a_.eval (.tmp 5)) w_ from hD 2 rfl)),
        .norm 9 rfl rfl rfl (fun a_ w_ hn_ hBt hr hR hD hO hS => op_ex21 (show Tup2 (FrW (w.heap.size) ((tp pr qr / tq qr)) ((Br) + 6)) (OutW ((tp pr qr % tq qr)) ((Br) + 6)) (a_.eval (.tmp 5)) w_ from hD 2 rfl)),
        .alloc 0 _ rfl rfl (.inl ⟨rfl, rfl⟩) rfl rfl rfl rfl rfl,
        .alloc 1 _ rfl rfl (.inl ⟨rfl, rfl⟩) rfl rfl rfl rfl rfl,
        .store 0 _ _ _ rfl rfl rfl rfl rfl rfl rfl (fun ia h => by cases h; rfl) rfl rfl rfl FrW.cs,
        .store 1 _ _ _ rfl rfl rfl rfl rfl rfl rfl (fun ia h => by cases h; rfl) rfl rfl rfl OutW.cs,
        trivial⟩
    · intro a2 w2 gs2 hn2 hd2 hBt hr hR hP hX hU
      replace hn := hn2; replace hd := hd2.trans hd
      have ne2_3 : (gs1 1) ≠ gs2 0 := by have h1 := b2.lt; have h2 := (hX 0 _ rfl).2.2.1 (by simp); omega
      replace b2 := b2.keep hBt ⟨someNe, someNe, trivial⟩
      obtain ⟨n_3, a_3, c_3, r_3, B3, T3, e8, F3, fb3, ft3, l3⟩ : FrW (w.heap.size) ((tp pr qr / tq qr)) ((Br) + 6) (a2.eval (.tmp 8)) w2 := hP 3 (by decide)
      have G3 := F3.wh; have A3 := G3.ag
      have HT3 : SzGe T3 w2 := ft3
      have b3 : BoxV W2 w2 (gs2 0) (.agg #[.bool n_3, .slice a_3 r_3.length c_3]) := boxv_of (hX 0 _ rfl).2.2.2 e8
      have f3 := (hX 0 _ rfl).1
      have u3 : w.heap.size ≤ gs2 0 := Nat.le_trans HB.size ((hX 0 _ rfl).2.2.1 (by simp))
      replace f2 := (hR 2 rfl).trans f2
      replace Ar := Ar.rl hr
      replace Sr := Sr.rl hr
      replace Dr := Dr.rl hr
      replace HB := HB.trans (hBt.below HB.size (UpOld.all (bx := [⟨W2, some 5, 0, 3, .agg #[.bool false, .slice none 0 0], some (7, 8, 3), []⟩, ⟨W2, some 6, 0, 4, .agg #[.bool false, .slice none 0 0], some (8, 9, 4), []⟩]) ⟨someNe, someNe, trivial⟩))
      clear hBt hr hR hP hX hU
      refine wp_seq ?_
      refine region4 [some 10, none] [Eqs (.agg #[.bool n_3, .slice a_3 r_3.length c_3]), (fun _ _ => True)] [⟨W2, none, (gs1 1), 2, .agg #[.bool false, .slice none 0 0], some (1, 10, 0), []⟩] [] (by kernel_rfl) hn rfl (by kernel_rfl) (by kernel_rfl) (by kernel_rfl) (by kernel_rfl) (by kernel_rfl) (by kernel_rfl) ⟨Eqs.mono4 _, True.mono4, trivial⟩ (ok_cons W2ok ok_nil) (IsOld.all (bx := [⟨W2, none, (gs1 1), 2, .agg #[.bool false, .slice none 0 0], some (1, 10, 0), []⟩]) ⟨fun _ => ⟨f2, b2⟩, trivial⟩) (DisOld.all (bx := [⟨W2, none, (gs1 1), 2, .agg #[.bool false, .slice none 0 0], some (1, 10, 0), []⟩]) ⟨fun _ => trivial, trivial⟩) ?_ ?_
      · exact ⟨.norm 10 rfl rfl rfl (fun a_ w_ hn_ hBt hr hR hD hO hS => op_loadv W2ok ((hR 3 rfl).trans f3) (b3.keep hBt ⟨fun _ => ne2_3, trivial⟩)),
          .store 0 _ _ _ rfl rfl rfl rfl rfl rfl rfl (fun ia h => by cases h) rfl rfl rfl (eqs_cs w2_cs),
          trivial⟩
      · intro a4 w4 gs4 hn4 hd4 hBt hr hR hP hX hU
        replace hn := hn4; replace hd := hd4.trans hd
        have e10 : a4.eval (.tmp 10) = .agg #[.bool n_3, .slice a_3 r_3.length c_3] := hP 0 (by decide)
        have b2 : BoxV W2 w4 ((gs1 1)) (.agg #[.bool n_3, .slice a_3 r_3.length c_3]) := boxv_old ((hX 0 _ rfl).2.1 rfl) (hX 0 _ rfl).2.2.2 e10
        replace f2 : a4.eval (.tmp 2) = _ := (hR 2 rfl).trans f2
        replace Ar := Ar.rl hr
        replace Sr := Sr.rl hr
        replace Dr := Dr.rl hr
        replace F3 := F3.rl hr
        replace G3 := G3.rl hr
        replace A3 := A3.rl hr
        replace HT3 := HT3.rl hr
        replace HB := HB.trans (hBt.below HB.size (UpOld.all (bx := [⟨W2, none, (gs1 1), 2, .agg #[.bool false, .slice none 0 0], some (1, 10, 0), []⟩]) ⟨fun _ => u2, trivial⟩))
        clear hBt hr hR hP hX hU
        refine wp_ret ?_
        repeat (first | refine then_ret ?_ | refine scope_ret ?_ | refine block_ret ?_)
        exact bodyPost_ret (v := .agg #[.bool n_3, .slice a_3 r_3.length c_3]) (res_c rfl f2 (lv_W2 b2)) hd ⟨_, rfl, frw_eq F3 fb3 HT3.le l3 (by omega), HB⟩
theorem has_rfloorF : Has Try.prog 18 := by unfold Has; kernel_rfl
theorem op_rfloorF {dst : Option Tmp} {ty : TypeId} {pos : String} {after : Array Edge} {guard : Option (Nat × Bool)} {a : Act} {w : World} {ats : Array TypeId} {i : Nat} {Br : Nat} {pr qr : Int} (Hr : IsR pr qr Br (a.eval (.tmp i)) w) (hL : Br ≤ 100000) :
    Does Try.prog { dst, op := .call { callee := .value (.func 18), args := #[.tmp i], argTypes := ats }, type := ty, pos, after, guard } a.eval w fun v w' => Below w.heap.size w w' ∧ (FrW w.heap.size (tp pr qr / tq qr) (Br + 6)) v w' := by
  obtain ⟨nr, ar, mr, cr, rs, br, kr, dr, rt, er, Ar, Sr, Vr, Lr, Mr⟩ := Hr
  refine does_call has_rfloorF _ (by simp only [List.map_toArray, List.map_cons, List.map_nil, er]) ((rfloorF_z w Br _ _ _ _ _ _ Ar Lr _ _ _ _ _ Sr Vr Mr hL).mono ?_)
  rintro e w' ⟨v, rfl, h1, hb⟩
  exact ⟨_, rfl, hb, h1⟩
set_option maxRecDepth 20000 in
set_option maxHeartbeats 2000000 in
theorem rwholeF_z (w : World) (Br : Nat) (nr : Bool) (ar : Option Addr) (mr cr : Nat) (rs : List Int) (pr : Int) (Ar : Ag w nr ar mr cr rs pr) (Lr : rs.length ≤ Br) (br : Option Addr) (kr dr : Nat) (rt : List Int) (qr : Int) (Sr : Sl w (.slice br kr dr) rt) (Vr : val rt = qr) (Mr : rt.length ≤ Br) (hL : Br ≤ 100000) (h0 : tp pr qr % tq qr = 0) :
    Calls Try.prog 20 #[.agg #[.bool nr, .slice ar mr cr, .slice br kr dr]] w fun e w' => ∃ v, e = .returned v ∧ (Tup2 (FrW w.heap.size (tp pr qr / tq qr) (Br + 6)) (Eqs (.bool true))) v w' ∧ Below w.heap.size w w' := by
  go_enter Try.func20, Try.ntmps20
  generalize hA : (Act.mk _ _) = aa
  have hn : aa.tmps.size = 16 := by rw [← hA]; rfl
  have hd : aa.defers = [] := by rw [← hA]
  have f0 : aa.eval (.tmp 0) = .agg #[.bool nr, .slice ar mr cr, .slice br kr dr] := by rw [← hA]; rfl
  clear hA
  have HB : Below w.heap.size w w := Below.refl _ _
  have Dr : Ag w false br kr dr rt qr := ⟨Sr, Vr⟩
  refine wp_seq ?_
  refine region4 [some 1, some 2, some 3] [(fun _ _ => True), (fun _ _ => True), Eqs ((.bool false))] [⟨R3, some 0, 0, 1, .agg #[.bool nr, .slice ar mr cr, .slice br kr dr], none, []⟩, ⟨W2, some 1, 0, 2, .agg #[.bool false, .slice none 0 0], none, []⟩] [] (by kernel_rfl) hn rfl (by kernel_rfl) (by kernel_rfl) (by kernel_rfl) (by kernel_rfl) (by kernel_rfl) (by kernel_rfl) ⟨True.mono4, True.mono4, Eqs.mono4 _, trivial⟩ (ok_cons R3ok (ok_cons W2ok ok_nil)) (IsOld.all (bx := [⟨R3, some 0, 0, 1, .agg #[.bool nr, .slice ar mr cr, .slice br kr dr], none, []⟩, ⟨W2, some 1, 0, 2, .agg #[.bool false, .slice none 0 0], none, []⟩]) ⟨someNe, someNe, trivial⟩) (DisOld.all (bx := [⟨R3, some 0, 0, 1, .agg #[.bool nr, .slice ar mr cr, .slice br kr dr], none, []⟩, ⟨W2, some 1, 0, 2, .agg #[.bool false, .slice none 0 0], none, []⟩]) ⟨someNe, someNe, trivial⟩) ?_ ?_
  · exact ⟨.alloc 0 _ rfl rfl (.inr ⟨_, rfl, r3_cs, fun a_ hR => (hR 0 rfl).trans f0⟩) rfl rfl rfl rfl rfl,
      .alloc 1 _ rfl rfl (.inl ⟨rfl, rfl⟩) rfl rfl rfl rfl rfl,
      .norm 3 rfl rfl rfl (fun a_ w_ hn_ hBt hr hR hD hO hS => op_assign rfl),
      trivial⟩
  · intro a1 w1 gs1 hn1 hd1 hBt hr hR hP hX hU
    replace hn := hn1; replace hd := hd1.trans hd
    have ne1_2 : gs1 0 ≠ gs1 1 := hU 0 1 (by simp) (by simp) (by decide)
    have b1 : BoxV R3 w1 (gs1 0) (.agg #[.bool nr, .slice ar mr cr, .slice br kr dr]) := (hX 0 _ rfl).2.2.2
    have f1 := (hX 0 _ rfl).1
    have u1 : w.heap.size ≤ gs1 0 := Nat.le_trans HB.size ((hX 0 _ rfl).2.2.1 (by simp))
    have b2 : BoxV W2 w1 (gs1 1) (.agg #[.bool false, .slice none 0 0]) := (hX 1 _ rfl).2.2.2
    have f2 := (hX 1 _ rfl).1
    have u2 : w.heap.size ≤ gs1 1 := Nat.le_trans HB.size ((hX 1 _ rfl).2.2.1 (by simp))
    have e3 : a1.eval (.tmp 3) = (.bool false) := hP 2 (by decide)
    have f3 := e3
    replace Ar := Ar.rl hr
    replace Sr := Sr.rl hr
    replace Dr := Dr.rl hr
    replace HB := HB.trans (hBt.below HB.size (UpOld.all (bx := [⟨R3, some 0, 0, 1, .agg #[.bool nr, .slice ar mr cr, .slice br kr dr], none, []⟩, ⟨W2, some 1, 0, 2, .agg #[.bool false, .slice none 0 0], none, []⟩]) ⟨someNe, someNe, trivial⟩))
    clear hBt hr hR hP hX hU
    refine wp_seq ?_
    refine region4 [some 7, some 8, some 6, some 9, some 10, some 4, some 5, none, none] [Eqs (.agg #[.bool nr, .slice ar mr cr, .slice br kr dr]), Tup2 (FrW (w.heap.size) ((tp pr qr / tq qr)) ((Br) + 6)) (OutW ((tp pr qr % tq qr)) ((Br) + 6)), Tup2 (FrW (w.heap.size) ((tp pr qr / tq qr)) ((Br) + 6)) (OutW ((tp pr qr % tq qr)) ((Br) + 6)), FrW (w.heap.size) ((tp pr qr / tq qr)) ((Br) + 6), OutW ((tp pr qr % tq qr)) ((Br) + 6), (fun _ _ => True), (fun _ _ => True), (fun _ _ => True), (fun _ _ => True)] [⟨W2, some 5, 0, 4, .agg #[.bool false, .slice none 0 0], some (7, 9, 3), []⟩, ⟨W2, some 6, 0, 5, .agg #[.bool false, .slice none 0 0], some (8, 10, 4), []⟩] [] (by kernel_rfl) hn rfl (by kernel_rfl) (by kernel_rfl) (by kernel_rfl) (by kernel_rfl) (by kernel_rfl) (by kernel_rfl) ⟨Eqs.mono4 _, Tup2.mono4 (FrW.mono4 _ _ _) (OutW.mono4 _ _), Tup2.mono4 (FrW.mono4 _ _ _) (OutW.mono4 _ _), FrW.mono4 _ _ _, OutW.mono4 _ _, True.mono4, True.mono4, True.mono4, True.mono4, trivial⟩ (ok_cons W2ok (ok_cons W2ok ok_nil)) (IsOld.all (bx := [⟨W2, some 5, 0, 4, .agg #[.bool false, .slice none 0 0], some (7, 9, 3), []⟩, ⟨W2, some 6, 0, 5, .agg #[.bool false, .slice none 0 0], some (8, 10, 4), []⟩]) ⟨someNe, someNe, trivial⟩) (DisOld.all (bx := [⟨W2, some 5, 0, 4, .agg #[.bool false, .slice none 0 0], some (7, 9, 3), []⟩, ⟨W2, some 6, 0, 5, .agg #[.bool false, .slice none 0 0], some (8, 10, 4), []⟩]) ⟨someNe, someNe, trivial⟩) ?_ ?_
    · exact ⟨.norm 7 rfl rfl rfl (fun a_ w_ hn_ hBt hr hR hD hO hS => op_loadv R3ok ((hR 1 rfl).trans f1) (b1.keep hBt ⟨someNe, someNe, trivial⟩)),
        .norm 8 rfl rfl rfl (fun a_ w_ hn_ hBt hr hR hD hO hS => frwlow (Nat.le_trans HB.size hr.size) (op_rdivideF (isr_eq (show a_.eval (.tmp 7) = .agg #[.bool nr, .slice ar mr cr, .slice br kr dr] from hD 0 rfl) (Ar.rl hr) (Sr.rl hr) Vr Lr Mr) (by omega))),
        .norm 6 rfl rfl rfl (fun a_ w_ hn_ hBt hr hR hD hO hS => op_mvp (p := Tup2 (FrW (w.heap.size) ((tp pr qr / tq qr)) ((Br) + 6)) (OutW ((tp pr qr % tq qr)) ((Br) + 6))) (show Tup2 (FrW (w.heap.size) ((tp pr qr / tq qr)) ((Br) + 6)) (OutW ((tp pr qr % tq qr)) ((Br) + 6)) (a_.eval (.tmp 8)) w_ from hD 1 rfl)),
        .norm 9 rfl rfl rfl (fun a_ w_ hn_ hBt hr hR hD hO hS => op_ex20 (show Tup2 (FrW (w.heap.size) ((tp pr qr / tq qr)) ((Br) + 6)) (OutW ((tp pr qr % tq qr)) ((Br) + 6)) (a_.eval (.tmp 6)) w_ from hD 2 rfl)),
        .norm 10 rfl rfl rfl (fun a_ w_ hn_ hBt hr hR hD hO hS => op_ex21 (show Tup2 (FrW (w.heap.size) ((tp pr qr / tq qr)) ((Br) + 6)) (OutW ((tp pr qr % tq qr)) ((Br) + 6)) (a_.eval (.tmp 6)) w_ from hD 2 rfl)),
        .alloc 0 _ rfl rfl (.inl ⟨rfl, rfl⟩) rfl rfl rfl rfl rfl,
        .alloc 1 _ rfl rfl (.inl ⟨rfl, rfl⟩) rfl rfl rfl rfl rfl,
        .store 0 _ _ _ rfl rfl rfl rfl rfl rfl rfl (fun ia h => by cases h; rfl) rfl rfl rfl FrW.cs,
        .store 1 _ _ _ rfl rfl rfl rfl rfl rfl rfl (fun ia h => by cases h; rfl) rfl rfl rfl OutW.cs,
        trivial⟩
    · intro a2 w2 gs2 hn2 hd2 hBt hr hR hP hX hU
      replace hn := hn2; replace hd := hd2.trans hd
      have ne2_4 : (gs1 1) ≠ gs2 0 := by have h1 := b2.lt; have h2 := (hX 0 _ rfl).2.2.1 (by simp); omega
      have ne2_5 : (gs1 1) ≠ gs2 1 := by have h1 := b2.lt; have h2 := (hX 1 _ rfl).2.2.1 (by simp); omega
      replace b2 := b2.keep hBt ⟨someNe, someNe, trivial⟩
      obtain ⟨n_3, a_3, c_3, r_3, B3, T3, e9, F3, fb3, ft3, l3⟩ : FrW (w.heap.size) ((tp pr qr / tq qr)) ((Br) + 6) (a2.eval (.tmp 9)) w2 := hP 3 (by decide)
      have G3 := F3.wh; have A3 := G3.ag
      have HT3 : SzGe T3 w2 := ft3
      have b4 : BoxV W2 w2 (gs2 0) (.agg #[.bool n_3, .slice a_3 r_3.length c_3]) := boxv_of (hX 0 _ rfl).2.2.2 e9
      have f4 := (hX 0 _ rfl).1
      have u4 : w.heap.size ≤ gs2 0 := Nat.le_trans HB.size ((hX 0 _ rfl).2.2.1 (by simp))
      obtain ⟨n_4, a_4, c_4, r_4, e10, G4, l4⟩ : OutW ((tp pr qr % tq qr)) ((Br) + 6) (a2.eval (.tmp 10)) w2 := hP 4 (by decide)
      have A4 := G4.ag
      have b5 : BoxV W2 w2 (gs2 1) (.agg #[.bool n_4, .slice a_4 r_4.length c_4]) := boxv_of (hX 1 _ rfl).2.2.2 e10
      have f5 := (hX 1 _ rfl).1
      have u5 : w.heap.size ≤ gs2 1 := Nat.le_trans HB.size ((hX 1 _ rfl).2.2.1 (by simp))
      replace f2 := (hR 2 rfl).trans f2
      replace f3 := (hR 3 rfl).trans f3
      replace Ar := Ar.rl hr
      replace Sr := Sr.rl hr
      replace Dr := Dr.rl hr
      replace HB := HB.trans (hBt.below HB.size (UpOld.all (bx := [⟨W2, some 5, 0, 4, .agg #[.bool false, .slice none 0 0], some (7, 9, 3), []⟩, ⟨W2, some 6, 0, 5, .agg #[.bool false, .slice none 0 0], some (8, 10, 4), []⟩]) ⟨someNe, someNe, trivial⟩))
      clear hBt hr hR hP hX hU
      refine wp_seq ?_
      refine wp_seq ?_
      refine region4 [some 11, some 12, some 13] [Eqs (.agg #[.bool n_4, .slice a_4 r_4.length c_4]), Eqs (.int .i64 (Int.sign (tp pr qr % tq qr))), Eqs (.bool (!decide ((Int.sign (tp pr qr % tq qr)) = 0)))] [] [] (by kernel_rfl) hn rfl (by kernel_rfl) (by kernel_rfl) (by kernel_rfl) (by kernel_rfl) (by kernel_rfl) (by kernel_rfl) ⟨Eqs.mono4 _, Eqs.mono4 _, Eqs.mono4 _, trivial⟩ ok_nil (IsOld.all (bx := []) trivial) (DisOld.all (bx := []) trivial) ?_ ?_
      · exact ⟨.norm 11 rfl rfl rfl (fun a_ w_ hn_ hBt hr hR hD hO hS => op_loadv W2ok ((hR 5 rfl).trans f5) (b5.keep hBt trivial)),
          .norm 12 rfl rfl rfl (fun a_ w_ hn_ hBt hr hR hD hO hS => op_sign (isw_eq (show a_.eval (.tmp 11) = .agg #[.bool n_4, .slice a_4 r_4.length c_4] from hD 0 rfl) (A4.rl hr) l4) (by omega)),
          .norm 13 rfl rfl rfl (fun a_ w_ hn_ hBt hr hR hD hO hS => op_neqk (show a_.eval (.tmp 12) = .int .i64 (Int.sign (tp pr qr % tq qr)) from hD 1 rfl)),
          trivial⟩
      · intro a5 w5 gs5 hn5 hd5 hBt hr hR hP hX hU
        replace hn := hn5; replace hd := hd5.trans hd
        replace b2 := b2.keep hBt trivial
        replace b4 := b4.keep hBt trivial
        replace f2 := (hR 2 rfl).trans f2
        replace f3 := (hR 3 rfl).trans f3
        replace f4 := (hR 4 rfl).trans f4
        have e13 : a5.eval (.tmp 13) = .bool (!decide ((Int.sign (tp pr qr % tq qr)) = 0)) := hP 2 (by decide)
        have f13 := e13
        replace Ar := Ar.rl hr
        replace Sr := Sr.rl hr
        replace Dr := Dr.rl hr
        replace F3 := F3.rl hr
        replace G3 := G3.rl hr
        replace A3 := A3.rl hr
        replace HT3 := HT3.rl hr
        replace G4 := G4.rl hr
        replace A4 := A4.rl hr
        replace HB := HB.trans (hBt.below HB.size (UpOld.all (bx := []) trivial))
        clear hBt hr hR hP hX hU
        refine wp_cond_split f13 (fun hc13 => ?_) (fun hc13 => ?_)
        · skip
          exact absurd (sign_zero_iff.2 h0) (by simpa using hc13)
        · skip
          refine wp_skip ?_
          refine wp_seq ?_
          refine region4 [some 15, none, some 3] [Eqs (.agg #[.bool n_3, .slice a_3 r_3.length c_3]), (fun _ _ => True), Eqs ((.bool true))] [⟨W2, none, (gs1 1), 2, .agg #[.bool false, .slice none 0 0], some (1, 15, 0), []⟩] [] (by kernel_rfl) hn rfl (by kernel_rfl) (by kernel_rfl) (by kernel_rfl) (by kernel_rfl) (by kernel_rfl) (by kernel_rfl) ⟨Eqs.mono4 _, True.mono4, Eqs.mono4 _, trivial⟩ (ok_cons W2ok ok_nil) (IsOld.all (bx := [⟨W2, none, (gs1 1), 2, .agg #[.bool false, .slice none 0 0], some (1, 15, 0), []⟩]) ⟨fun _ => ⟨f2, b2⟩, trivial⟩) (DisOld.all (bx := [⟨W2, none, (gs1 1), 2, .agg #[.bool false, .slice none 0 0], some (1, 15, 0), []⟩]) ⟨fun _ => trivial, trivial⟩) ?_ ?_
          · exact ⟨.norm 15 rfl rfl rfl (fun a_ w_ hn_ hBt hr hR hD hO hS => op_loadv W2ok ((hR 4 rfl).trans f4) (b4.keep hBt ⟨fun _ => ne2_4, trivial⟩)),
              .store 0 _ _ _ rfl rfl rfl rfl rfl rfl rfl (fun ia h => by cases h) rfl rfl rfl (eqs_cs w2_cs),
              .norm 3 rfl rfl rfl (fun a_ w_ hn_ hBt hr hR hD hO hS => op_assign rfl),
              trivial⟩
          · intro a6 w6 gs6 hn6 hd6 hBt hr hR hP hX hU
            replace hn := hn6; replace hd := hd6.trans hd
            have e15 : a6.eval (.tmp 15) = .agg #[.bool n_3, .slice a_3 r_3.length c_3] := hP 0 (by decide)
            have b2 : BoxV W2 w6 ((gs1 1)) (.agg #[.bool n_3, .slice a_3 r_3.length c_3]) := boxv_old ((hX 0 _ rfl).2.1 rfl) (hX 0 _ rfl).2.2.2 e15
            replace f2 : a6.eval (.tmp 2) = _ := (hR 2 rfl).trans f2
            have e3 : a6.eval (.tmp 3) = (.bool true) := hP 2 (by decide)
            have f3 := e3
            replace Ar := Ar.rl hr
            replace Sr := Sr.rl hr
            replace Dr := Dr.rl hr
            replace F3 := F3.rl hr
            replace G3 := G3.rl hr
            replace A3 := A3.rl hr
            replace HT3 := HT3.rl hr
            replace G4 := G4.rl hr
            replace A4 := A4.rl hr
            replace HB := HB.trans (hBt.below HB.size (UpOld.all (bx := [⟨W2, none, (gs1 1), 2, .agg #[.bool false, .slice none 0 0], some (1, 15, 0), []⟩]) ⟨fun _ => u2, trivial⟩))
            clear hBt hr hR hP hX hU
            refine wp_ret ?_
            repeat (first | refine then_ret ?_ | refine scope_ret ?_ | refine block_ret ?_)
            exact bodyPost_ret (v := .tuple #[.agg #[.bool n_3, .slice a_3 r_3.length c_3], (.bool true)]) (res_ct rfl f2 (lv_W2 b2) f3) hd ⟨_, rfl, ⟨_, _, rfl, frw_eq F3 fb3 HT3.le l3 (by omega), rfl⟩, HB⟩
theorem has_rwholeF : Has Try.prog 20 := by unfold Has; kernel_rfl
theorem op_rwholeF {dst : Option Tmp} {ty : TypeId} {pos : String} {after : Array Edge} {guard : Option (Nat × Bool)} {a : Act} {w : World} {ats : Array TypeId} {i : Nat} {Br : Nat} {pr qr : Int} (Hr : IsR pr qr Br (a.eval (.tmp i)) w) (hL : Br ≤ 100000) (h0 : tp pr qr % tq qr = 0) :
    Does Try.prog { dst, op := .call { callee := .value (.func 20), args := #[.tmp i], argTypes := ats }, type := ty, pos, after, guard } a.eval w fun v w' => Below w.heap.size w w' ∧ (Tup2 (FrW w.heap.size (tp pr qr / tq qr) (Br + 6)) (Eqs (.bool true))) v w' := by
  obtain ⟨nr, ar, mr, cr, rs, br, kr, dr, rt, er, Ar, Sr, Vr, Lr, Mr⟩ := Hr
  refine does_call has_rwholeF _ (by simp only [List.map_toArray, List.map_cons, List.map_nil, er]) ((rwholeF_z w Br _ _ _ _ _ _ Ar Lr _ _ _ _ _ Sr Vr Mr hL h0).mono ?_)
  rintro e w' ⟨v, rfl, h1, hb⟩
  exact ⟨_, rfl, hb, h1⟩
set_option maxRecDepth 20000 in
set_option maxHeartbeats 2000000 in
theorem rwholeF0_z (w : World) (Br : Nat) (nr : Bool) (ar : Option Addr) (mr cr : Nat) (rs : List Int) (pr : Int) (Ar : Ag w nr ar mr cr rs pr) (Lr : rs.length ≤ Br) (br : Option Addr) (kr dr : Nat) (rt : List Int) (qr : Int) (Sr : Sl w (.slice br kr dr) rt) (Vr : val rt = qr) (Mr : rt.length ≤ Br) (hL : Br ≤ 100000) (h0 : tp pr qr % tq qr ≠ 0) :
    Calls Try.prog 20 #[.agg #[.bool nr, .slice ar mr cr, .slice br kr dr]] w fun e w' => ∃ v, e = .returned v ∧ (Tup2 (FrW w.heap.size 0 (Br + 6)) (Eqs (.bool false))) v w' ∧ Below w.heap.size w w' := by
  go_enter Try.func20, Try.ntmps20
  generalize hA : (Act.mk _ _) = aa
  have hn : aa.tmps.size = 16 := by rw [← hA]; rfl
  have hd : aa.defers = [] := by rw [← hA]
  have f0 : aa.eval (.tmp 0) = .agg #[.bool nr, .slice ar mr cr, .slice br kr dr] := by rw [← hA]; rfl
  clear hA
  have HB : Below w.heap.size w w := Below.refl _ _
  have Dr : Ag w false br kr dr rt qr := ⟨Sr, Vr⟩
  refine wp_seq ?_
  refine region4 [some 1, some 2, some 3] [(fun _ _ => True), (fun _ _ => True), Eqs ((.bool false))] [⟨R3, some 0, 0, 1, .agg #[.bool nr, .slice ar mr cr, .slice br kr dr], none, []⟩, ⟨W2, some 1, 0, 2, .agg #[.bool false, .slice none 0 0], none, []⟩] [] (by kernel_rfl) hn rfl (by kernel_rfl) (by kernel_rfl) (by kernel_rfl) (by kernel_rfl) (by kernel_rfl) (by kernel_rfl) ⟨True.mono4, True.mono4, Eqs.mono4 _, trivial⟩ (ok_cons R3ok (ok_cons W2ok ok_nil)) (IsOld.all (bx := [⟨R3, some 0, 0, 1, .agg #[.bool nr, .slice ar mr cr, .slice br kr dr], none, []⟩, ⟨W2, some 1, 0, 2, .agg #[.bool false, .slice none 0 0], none, []⟩]) ⟨someNe, someNe, trivial⟩) (DisOld.all (bx := [⟨R3, some 0, 0, 1, .agg #[.bool nr, .slice ar mr cr, .slice br kr dr], none, []⟩, ⟨W2, some 1, 0, 2, .agg #[.bool false, .slice none 0 0], none, []⟩]) ⟨someNe, someNe, trivial⟩) ?_ ?_
  · exact ⟨.alloc 0 _ rfl rfl (.inr ⟨_, rfl, r3_cs, fun a_ hR => (hR 0 rfl).trans f0⟩) rfl rfl rfl rfl rfl,
      .alloc 1 _ rfl rfl (.inl ⟨rfl, rfl⟩) rfl rfl rfl rfl rfl,
      .norm 3 rfl rfl rfl (fun a_ w_ hn_ hBt hr hR hD hO hS => op_assign rfl),
      trivial⟩
  · intro a1 w1 gs1 hn1 hd1 hBt hr hR hP hX hU
    replace hn := hn1; replace hd := hd1.trans hd
    have ne1_2 : gs1 0 ≠ gs1 1 := hU 0 1 (by simp) (by simp) (by decide)
    have b1 : BoxV R3 w1 (gs1 0) (.agg #[.bool nr, .slice ar mr cr, .slice br kr dr]) := (hX 0 _ rfl).2.2.2
    have f1 := (hX 0 _ rfl).1
    have u1 : w.heap.size ≤ gs1 0 := Nat.le_trans HB.size ((hX 0 _ rfl).2.2.1 (by simp))
    have b2 : BoxV W2 w1 (gs1 1) (.agg #[.bool false, .slice none 0 0]) := (hX 1 _ rfl).2.2.2
    have f2 := (hX 1 _ rfl).1
    have u2 : w.heap.size ≤ gs1 1 := Nat.le_trans HB.size ((hX 1 _ rfl).2.2.1 (by simp))
    have e3 : a1.eval (.tmp 3) = (.bool false) := hP 2 (by decide)
    have f3 := e3
    replace Ar := Ar.rl hr
    replace Sr := Sr.rl hr
    replace Dr := Dr.rl hr
    replace HB := HB.trans (hBt.below HB.size (UpOld.all (bx := [⟨R3, some 0, 0, 1, .agg #[.bool nr, .slice ar mr cr, .slice br kr dr], none, []⟩, ⟨W2, some 1, 0, 2, .agg #[.bool false, .slice none 0 0], none, []⟩]) ⟨someNe, someNe, trivial⟩))
    clear hBt hr hR hP hX hU
    refine wp_seq ?_
    refine region4 [some 7, some 8, some 6, some 9, some 10, some 4, some 5, none, none] [Eqs (.agg #[.bool nr, .slice ar mr cr, .slice br kr dr]), Tup2 (FrW (w.heap.size) ((tp pr qr / tq qr)) ((Br) + 6)) (OutW ((tp pr qr % tq qr)) ((Br) + 6)), Tup2 (FrW (w.heap.size) ((tp pr qr / tq qr)) ((Br) + 6)) (OutW ((tp pr qr % tq qr)) ((Br) + 6)), FrW (w.heap.size) ((tp pr qr / tq qr)) ((Br) + 6), OutW ((tp pr qr % tq qr)) ((Br) + 6), (fun _ _ => True), (fun _ _ => True), (fun _ _ => True), (fun _ _ => True)] [⟨W2, some 5, 0, 4, .agg #[.bool false, .slice none 0 0], some (7, 9, 3), []⟩, ⟨W2, some 6, 0, 5, .agg #[.bool false, .slice none 0 0], some (8, 10, 4), []⟩] [] (by kernel_rfl) hn rfl (by kernel_rfl) (by kernel_rfl) (by kernel_rfl) (by kernel_rfl) (by kernel_rfl) (by kernel_rfl) ⟨Eqs.mono4 _, Tup2.mono4 (FrW.mono4 _ _ _) (OutW.mono4 _ _), Tup2.mono4 (FrW.mono4 _ _ _) (OutW.mono4 _ _), FrW.mono4 _ _ _, OutW.mono4 _ _, True.mono4, True.mono4, True.mono4, True.mono4, trivial⟩ (ok_cons W2ok (ok_cons W2ok ok_nil)) (IsOld.all (bx := [⟨W2, some 5, 0, 4, .agg #[.bool false, .slice none 0 0], some (7, 9, 3), []⟩, ⟨W2, some 6, 0, 5, .agg #[.bool false, .slice none 0 0], some (8, 10, 4), []⟩]) ⟨someNe, someNe, trivial⟩) (DisOld.all (bx := [⟨W2, some 5, 0, 4, .agg #[.bool false, .slice none 0 0], some (7, 9, 3), []⟩, ⟨W2, some 6, 0, 5, .agg #[.bool false, .slice none 0 0], some (8, 10, 4), []⟩]) ⟨someNe, someNe, trivial⟩) ?_ ?_
    · exact ⟨.norm 7 rfl rfl rfl (fun a_ w_ hn_ hBt hr hR hD hO hS => op_loadv R3ok ((hR 1 rfl).trans f1) (b1.keep hBt ⟨someNe, someNe, trivial⟩)),
        .norm 8 rfl rfl rfl (fun a_ w_ hn_ hBt hr hR hD hO hS => frwlow (Nat.le_trans HB.size hr.size) (op_rdivideF (isr_eq (show a_.eval (.tmp 7) = .agg #[.bool nr, .slice ar mr cr, .slice br kr dr] from hD 0 rfl) (Ar.rl hr) (Sr.rl hr) Vr Lr Mr) (by omega))),
        .norm 6 rfl rfl rfl (fun a_ w_ hn_ hBt hr hR hD hO hS => op_mvp (p := Tup2 (FrW (w.heap.size) ((tp pr qr / tq qr)) ((Br) + 6)) (OutW ((tp pr qr % tq qr)) ((Br) + 6))) (show Tup2 (FrW (w.heap.size) ((tp pr qr / tq qr)) ((Br) + 6)) (OutW ((tp pr qr % tq qr)) ((Br) + 6)) (a_.eval (.tmp 8)) w_ from hD 1 rfl)),
        .norm 9 rfl rfl rfl (fun a_ w_ hn_ hBt hr hR hD hO hS => op_ex20 (show Tup2 (FrW (w.heap.size) ((tp pr qr / tq qr)) ((Br) + 6)) (OutW ((tp pr qr % tq qr)) ((Br) + 6)) (a_.eval (.tmp 6)) w_ from hD 2 rfl)),
        .norm 10 rfl rfl rfl (fun a_ w_ hn_ hBt hr hR hD hO hS => op_ex21 (show Tup2 (FrW (w.heap.size) ((tp pr qr / tq qr)) ((Br) + 6)) (OutW ((tp pr qr % tq qr)) ((Br) + 6)) (a_.eval (.tmp 6)) w_ from hD 2 rfl)),
        .alloc 0 _ rfl rfl (.inl ⟨rfl, rfl⟩) rfl rfl rfl rfl rfl,
        .alloc 1 _ rfl rfl (.inl ⟨rfl, rfl⟩) rfl rfl rfl rfl rfl,
        .store 0 _ _ _ rfl rfl rfl rfl rfl rfl rfl (fun ia h => by cases h; rfl) rfl rfl rfl FrW.cs,
        .store 1 _ _ _ rfl rfl rfl rfl rfl rfl rfl (fun ia h => by cases h; rfl) rfl rfl rfl OutW.cs,
        trivial⟩
    · intro a2 w2 gs2 hn2 hd2 hBt hr hR hP hX hU
      replace hn := hn2; replace hd := hd2.trans hd
      have ne2_4 : (gs1 1) ≠ gs2 0 := by have h1 := b2.lt; have h2 := (hX 0 _ rfl).2.2.1 (by simp); omega
      have ne2_5 : (gs1 1) ≠ gs2 1 := by have h1 := b2.lt; have h2 := (hX 1 _ rfl).2.2.1 (by simp); omega
      replace b2 := b2.keep hBt ⟨someNe, someNe, trivial⟩
      obtain ⟨n_3, a_3, c_3, r_3, B3, T3, e9, F3, fb3, ft3, l3⟩ : FrW (w.heap.size) ((tp pr qr / tq qr)) ((Br) + 6) (a2.eval (.tmp 9)) w2 := hP 3 (by decide)
      have G3 := F3.wh; have A3 := G3.ag
      have HT3 : SzGe T3 w2 := ft3
      have b4 : BoxV W2 w2 (gs2 0) (.agg #[.bool n_3, .slice a_3 r_3.length c_3]) := boxv_of (hX 0 _ rfl).2.2.2 e9
      have f4 := (hX 0 _ rfl).1
      have u4 : w.heap.size ≤ gs2 0 := Nat.le_trans HB.size ((hX 0 _ rfl).2.2.1 (by simp))
      obtain ⟨n_4, a_4, c_4, r_4, e10, G4, l4⟩ : OutW ((tp pr qr % tq qr)) ((Br) + 6) (a2.eval (.tmp 10)) w2 := hP 4 (by decide)
      have A4 := G4.ag
      have b5 : BoxV W2 w2 (gs2 1) (.agg #[.bool n_4, .slice a_4 r_4.length c_4]) := boxv_of (hX 1 _ rfl).2.2.2 e10
      have f5 := (hX 1 _ rfl).1
      have u5 : w.heap.size ≤ gs2 1 := Nat.le_trans HB.size ((hX 1 _ rfl).2.2.1 (by simp))
      replace f2 := (hR 2 rfl).trans f2
      replace f3 := (hR 3 rfl).trans f3
      replace Ar := Ar.rl hr
      replace Sr := Sr.rl hr
      replace Dr := Dr.rl hr
      replace HB := HB.trans (hBt.below HB.size (UpOld.all (bx := [⟨W2, some 5, 0, 4, .agg #[.bool false, .slice none 0 0], some (7, 9, 3), []⟩, ⟨W2, some 6, 0, 5, .agg #[.bool false, .slice none 0 0], some (8, 10, 4), []⟩]) ⟨someNe, someNe, trivial⟩))
      clear hBt hr hR hP hX hU
      refine wp_seq ?_
      refine wp_seq ?_
      refine region4 [some 11, some 12, some 13] [Eqs (.agg #[.bool n_4, .slice a_4 r_4.length c_4]), Eqs (.int .i64 (Int.sign (tp pr qr % tq qr))), Eqs (.bool (!decide ((Int.sign (tp pr qr % tq qr)) = 0)))] [] [] (by kernel_rfl) hn rfl (by kernel_rfl) (by kernel_rfl) (by kernel_rfl) (by kernel_rfl) (by kernel_rfl) (by kernel_rfl) ⟨Eqs.mono4 _, Eqs.mono4 _, Eqs.mono4 _, trivial⟩ ok_nil (IsOld.all (bx := []) trivial) (DisOld.all (bx := []) trivial) ?_ ?_
      · exact ⟨.norm 11 rfl rfl rfl (fun a_ w_ hn_ hBt hr hR hD hO hS => op_loadv W2ok ((hR 5 rfl).trans f5) (b5.keep hBt trivial)),
          .norm 12 rfl rfl rfl (fun a_ w_ hn_ hBt hr hR hD hO hS => op_sign (isw_eq (show a_.eval (.tmp 11) = .agg #[.bool n_4, .slice a_4 r_4.length c_4] from hD 0 rfl) (A4.rl hr) l4) (by omega)),
          .norm 13 rfl rfl rfl (fun a_ w_ hn_ hBt hr hR hD hO hS => op_neqk (show a_.eval (.tmp 12) = .int .i64 (Int.sign (tp pr qr % tq qr)) from hD 1 rfl)),
          trivial⟩
      · intro a5 w5 gs5 hn5 hd5 hBt hr hR hP hX hU
        replace hn := hn5; replace hd := hd5.trans hd
        replace b2 := b2.keep hBt trivial
        replace b4 := b4.keep hBt trivial
        replace f2 := (hR 2 rfl).trans f2
        replace f3 := (hR 3 rfl).trans f3
        replace f4 := (hR 4 rfl).trans f4
        have e13 : a5.eval (.tmp 13) = .bool (!decide ((Int.sign (tp pr qr % tq qr)) = 0)) := hP 2 (by decide)
        have f13 := e13
        replace Ar := Ar.rl hr
        replace Sr := Sr.rl hr
        replace Dr := Dr.rl hr
        replace F3 := F3.rl hr
        replace G3 := G3.rl hr
        replace A3 := A3.rl hr
        replace HT3 := HT3.rl hr
        replace G4 := G4.rl hr
        replace A4 := A4.rl hr
        replace HB := HB.trans (hBt.below HB.size (UpOld.all (bx := []) trivial))
        clear hBt hr hR hP hX hU
        refine wp_cond_split f13 (fun hc13 => ?_) (fun hc13 => ?_)
        · skip
          refine wp_seq ?_
          refine region4 [some 14, none, some 3] [Eqs (.agg #[.bool false, .slice none 0 0]), (fun _ _ => True), Eqs ((.bool false))] [⟨W2, none, (gs1 1), 2, .agg #[.bool false, .slice none 0 0], some (1, 14, 0), []⟩] [] (by kernel_rfl) hn rfl (by kernel_rfl) (by kernel_rfl) (by kernel_rfl) (by kernel_rfl) (by kernel_rfl) (by kernel_rfl) ⟨Eqs.mono4 _, True.mono4, Eqs.mono4 _, trivial⟩ (ok_cons W2ok ok_nil) (IsOld.all (bx := [⟨W2, none, (gs1 1), 2, .agg #[.bool false, .slice none 0 0], some (1, 14, 0), []⟩]) ⟨fun _ => ⟨f2, b2⟩, trivial⟩) (DisOld.all (bx := [⟨W2, none, (gs1 1), 2, .agg #[.bool false, .slice none 0 0], some (1, 14, 0), []⟩]) ⟨fun _ => trivial, trivial⟩) ?_ ?_
          · exact ⟨.norm 14 rfl rfl rfl (fun a_ w_ hn_ hBt hr hR hD hO hS => op_bW0),
              .store 0 _ _ _ rfl rfl rfl rfl rfl rfl rfl (fun ia h => by cases h) rfl rfl rfl (eqs_cs w2_cs),
              .norm 3 rfl rfl rfl (fun a_ w_ hn_ hBt hr hR hD hO hS => op_assign rfl),
              trivial⟩
          · intro a6 w6 gs6 hn6 hd6 hBt hr hR hP hX hU
            replace hn := hn6; replace hd := hd6.trans hd
            replace b4 := b4.keep hBt ⟨fun _ => ne2_4, trivial⟩
            have e14 : a6.eval (.tmp 14) = .agg #[.bool false, .slice none 0 0] := hP 0 (by decide)
            have b2 : BoxV W2 w6 ((gs1 1)) (.agg #[.bool false, .slice none 0 0]) := boxv_old ((hX 0 _ rfl).2.1 rfl) (hX 0 _ rfl).2.2.2 e14
            replace f2 : a6.eval (.tmp 2) = _ := (hR 2 rfl).trans f2
            replace f4 := (hR 4 rfl).trans f4
            have e3 : a6.eval (.tmp 3) = (.bool false) := hP 2 (by decide)
            have f3 := e3
            replace Ar := Ar.rl hr
            replace Sr := Sr.rl hr
            replace Dr := Dr.rl hr
            replace F3 := F3.rl hr
            replace G3 := G3.rl hr
            replace A3 := A3.rl hr
            replace HT3 := HT3.rl hr
            replace G4 := G4.rl hr
            replace A4 := A4.rl hr
            replace HB := HB.trans (hBt.below HB.size (UpOld.all (bx := [⟨W2, none, (gs1 1), 2, .agg #[.bool false, .slice none 0 0], some (1, 14, 0), []⟩]) ⟨fun _ => u2, trivial⟩))
            clear hBt hr hR hP hX hU
            refine wp_ret ?_
            repeat (first | refine then_ret ?_ | refine scope_ret ?_ | refine block_ret ?_)
            exact bodyPost_ret (v := .tuple #[.agg #[.bool false, .slice none 0 0], (.bool false)]) (res_ct rfl f2 (lv_W2 b2) f3) hd ⟨_, rfl, ⟨_, _, rfl, frw_zero HB.size _, rfl⟩, HB⟩
        · skip
          exact absurd (sign_zero_iff.1 (by simpa using hc13)) h0
theorem has_rwholeF0 : Has Try.prog 20 := by unfold Has; kernel_rfl
theorem op_rwholeF0 {dst : Option Tmp} {ty : TypeId} {pos : String} {after : Array Edge} {guard : Option (Nat × Bool)} {a : Act} {w : World} {ats : Array TypeId} {i : Nat} {Br : Nat} {pr qr : Int} (Hr : IsR pr qr Br (a.eval (.tmp i)) w) (hL : Br ≤ 100000) (h0 : tp pr qr % tq qr ≠ 0) :
    Does Try.prog { dst, op := .call { callee := .value (.func 20), args := #[.tmp i], argTypes := ats }, type := ty, pos, after, guard } a.eval w fun v w' => Below w.heap.size w w' ∧ (Tup2 (FrW w.heap.size 0 (Br + 6)) (Eqs (.bool false))) v w' := by
  obtain ⟨nr, ar, mr, cr, rs, br, kr, dr, rt, er, Ar, Sr, Vr, Lr, Mr⟩ := Hr
  refine does_call has_rwholeF0 _ (by simp only [List.map_toArray, List.map_cons, List.map_nil, er]) ((rwholeF0_z w Br _ _ _ _ _ _ Ar Lr _ _ _ _ _ Sr Vr Mr hL h0).mono ?_)
  rintro e w' ⟨v, rfl, h1, hb⟩
  exact ⟨_, rfl, hb, h1⟩
set_option maxRecDepth 20000 in
set_option maxHeartbeats 2000000 in
theorem rlimbs_z (w : World) (Br : Nat) (nr : Bool) (ar : Option Addr) (mr cr : Nat) (rs : List Int) (pr : Int) (Ar : Ag w nr ar mr cr rs pr) (Lr : rs.length ≤ Br) (br : Option Addr) (kr dr : Nat) (rt : List Int) (qr : Int) (Sr : Sl w (.slice br kr dr) rt) (Vr : val rt = qr) (Mr : rt.length ≤ Br) (hL : 2 * (Br + 2) ≤ 100000) (mP mQ : Nat) (hmP : IsLen (((nm (tp pr qr) (tq qr))).natAbs : Int) mP) (hmQ : IsLen (dn (tp pr qr) (tq qr)) mQ) :
    Calls Try.prog 22 #[.agg #[.bool nr, .slice ar mr cr, .slice br kr dr]] w fun e w' => ∃ v, e = .returned v ∧ (Eqs (.int .i64 ((max mP mQ : Nat) : Int))) v w' ∧ Below w.heap.size w w' := by
  go_enter Try.func22, Try.ntmps22
  generalize hA : (Act.mk _ _) = aa
  have hn : aa.tmps.size = 14 := by rw [← hA]; rfl
  have hd : aa.defers = [] := by rw [← hA]
  have f0 : aa.eval (.tmp 0) = .agg #[.bool nr, .slice ar mr cr, .slice br kr dr] := by rw [← hA]; rfl
  clear hA
  have HB : Below w.heap.size w w := Below.refl _ _
  have Dr : Ag w false br kr dr rt qr := ⟨Sr, Vr⟩
  refine wp_seq ?_
  refine region4 [some 1, some 2] [(fun _ _ => True), Eqs ((.int .i64 0))] [⟨R3, some 0, 0, 1, .agg #[.bool nr, .slice ar mr cr, .slice br kr dr], none, []⟩] [] (by kernel_rfl) hn rfl (by kernel_rfl) (by kernel_rfl) (by kernel_rfl) (by kernel_rfl) (by kernel_rfl) (by kernel_rfl) ⟨True.mono4, Eqs.mono4 _, trivial⟩ (ok_cons R3ok ok_nil) (IsOld.all (bx := [⟨R3, some 0, 0, 1, .agg #[.bool nr, .slice ar mr cr, .slice br kr dr], none, []⟩]) ⟨someNe, trivial⟩) (DisOld.all (bx := [⟨R3, some 0, 0, 1, .agg #[.bool nr, .slice ar mr cr, .slice br kr dr], none, []⟩]) ⟨someNe, trivial⟩) ?_ ?_
  · exact ⟨.alloc 0 _ rfl rfl (.inr ⟨_, rfl, r3_cs, fun a_ hR => (hR 0 rfl).trans f0⟩) rfl rfl rfl rfl rfl,
      .norm 2 rfl rfl rfl (fun a_ w_ hn_ hBt hr hR hD hO hS => op_assign rfl),
      trivial⟩
  · intro a1 w1 gs1 hn1 hd1 hBt hr hR hP hX hU
    replace hn := hn1; replace hd := hd1.trans hd
    have b1 : BoxV R3 w1 (gs1 0) (.agg #[.bool nr, .slice ar mr cr, .slice br kr dr]) := (hX 0 _ rfl).2.2.2
    have f1 := (hX 0 _ rfl).1
    have u1 : w.heap.size ≤ gs1 0 := Nat.le_trans HB.size ((hX 0 _ rfl).2.2.1 (by simp))
    have e2 : a1.eval (.tmp 2) = (.int .i64 0) := hP 1 (by decide)
    have f2 := e2
    replace Ar := Ar.rl hr
    replace Sr := Sr.rl hr
    replace Dr := Dr.rl hr
    replace HB := HB.trans (hBt.below HB.size (UpOld.all (bx := [⟨R3, some 0, 0, 1, .agg #[.bool nr, .slice ar mr cr, .slice br kr dr], none, []⟩]) ⟨someNe, trivial⟩))
    clear hBt hr hR hP hX hU
    refine wp_seq ?_
    refine region4 [some 4, some 5, some 3, none] [Eqs (.agg #[.bool nr, .slice ar mr cr, .slice br kr dr]), OutR ((nm (tp pr qr) (tq qr))) ((dn (tp pr qr) (tq qr))) (2 * ((Br) + 2)), (fun _ _ => True), (fun _ _ => True)] [⟨R3, some 2, 0, 3, .agg #[.bool false, .slice none 0 0, .slice none 0 0], some (3, 5, 1), []⟩] [] (by kernel_rfl) hn rfl (by kernel_rfl) (by kernel_rfl) (by kernel_rfl) (by kernel_rfl) (by kernel_rfl) (by kernel_rfl) ⟨Eqs.mono4 _, OutR.mono4 _ _ _, True.mono4, True.mono4, trivial⟩ (ok_cons R3ok ok_nil) (IsOld.all (bx := [⟨R3, some 2, 0, 3, .agg #[.bool false, .slice none 0 0, .slice none 0 0], some (3, 5, 1), []⟩]) ⟨someNe, trivial⟩) (DisOld.all (bx := [⟨R3, some 2, 0, 3, .agg #[.bool false, .slice none 0 0, .slice none 0 0], some (3, 5, 1), []⟩]) ⟨someNe, trivial⟩) ?_ ?_
    · exact ⟨.norm 4 rfl rfl rfl (fun a_ w_ hn_ hBt hr hR hD hO hS => op_loadv R3ok ((hR 1 rfl).trans f1) (b1.keep hBt ⟨someNe, trivial⟩)),
        .norm 5 rfl rfl rfl (fun a_ w_ hn_ hBt hr hR hD hO hS => op_rtrim (isr_eq (show a_.eval (.tmp 4) = .agg #[.bool nr, .slice ar mr cr, .slice br kr dr] from hD 0 rfl) (Ar.rl hr) (Sr.rl hr) Vr Lr Mr) (by omega)),
        .alloc 0 _ rfl rfl (.inl ⟨rfl, rfl⟩) rfl rfl rfl rfl rfl,
        .store 0 _ _ _ rfl rfl rfl rfl rfl rfl rfl (fun ia h => by cases h; rfl) rfl rfl rfl OutR.cs,
        trivial⟩
    · intro a2 w2 gs2 hn2 hd2 hBt hr hR hP hX hU
      replace hn := hn2; replace hd := hd2.trans hd
      obtain ⟨n_3, a_3, c_3, r_3, b_3, d_3, s_3, e5, G3, K3, l3, k3⟩ : OutR ((nm (tp pr qr) (tq qr))) ((dn (tp pr qr) (tq qr))) (2 * ((Br) + 2)) (a2.eval (.tmp 5)) w2 := hP 1 (by decide)
      have A3 := G3.ag; have S3 := K3.sl; have V3 := K3.val
      have b3 : BoxV R3 w2 (gs2 0) (.agg #[.bool n_3, .slice a_3 r_3.length c_3, .slice b_3 s_3.length d_3]) := boxv_of (hX 0 _ rfl).2.2.2 e5
      have f3 := (hX 0 _ rfl).1
      have u3 : w.heap.size ≤ gs2 0 := Nat.le_trans HB.size ((hX 0 _ rfl).2.2.1 (by simp))
      replace f2 := (hR 2 rfl).trans f2
      replace Ar := Ar.rl hr
      replace Sr := Sr.rl hr
      replace Dr := Dr.rl hr
      replace HB := HB.trans (hBt.below HB.size (UpOld.all (bx := [⟨R3, some 2, 0, 3, .agg #[.bool false, .slice none 0 0, .slice none 0 0], some (3, 5, 1), []⟩]) ⟨someNe, trivial⟩))
      clear hBt hr hR hP hX hU
      refine wp_seq ?_
      refine region4 [some 6, some 7, some 8, some 9, some 10, some 11, some 12, some 13, some 2] [Eqs (.pointer (some ⟨gs2 0, 0, none⟩)), Eqs (.pointer (some ⟨gs2 0, 1, none⟩)), Eqs (.slice a_3 r_3.length c_3), Eqs (.int .i64 (r_3.length : Int)), Eqs (.pointer (some ⟨gs2 0, 2, none⟩)), Eqs (.slice b_3 s_3.length d_3), Eqs (.int .i64 (s_3.length : Int)), Eqs (.int .i64 ((max r_3.length s_3.length : Nat) : Int)), Eqs (.int .i64 ((max r_3.length s_3.length : Nat) : Int))] [] [] (by kernel_rfl) hn rfl (by kernel_rfl) (by kernel_rfl) (by kernel_rfl) (by kernel_rfl) (by kernel_rfl) (by kernel_rfl) ⟨Eqs.mono4 _, Eqs.mono4 _, Eqs.mono4 _, Eqs.mono4 _, Eqs.mono4 _, Eqs.mono4 _, Eqs.mono4 _, Eqs.mono4 _, Eqs.mono4 _, trivial⟩ ok_nil (IsOld.all (bx := []) trivial) (DisOld.all (bx := []) trivial) ?_ ?_
      · exact ⟨.norm 6 rfl rfl rfl (fun a_ w_ hn_ hBt hr hR hD hO hS => op_faR fa_num ((hR 3 rfl).trans f3)),
          .norm 7 rfl rfl rfl (fun a_ w_ hn_ hBt hr hR hD hO hS => op_fa fa_mag (show a_.eval (.tmp 6) = .pointer (some ⟨gs2 0, 0, none⟩) from hD 0 rfl)),
          .norm 8 rfl rfl rfl (fun a_ w_ hn_ hBt hr hR hD hO hS => op_ldrmag (show a_.eval (.tmp 7) = .pointer (some ⟨gs2 0, 1, none⟩) from hD 1 rfl) (b3.keep hBt trivial)),
          .norm 9 rfl rfl rfl (fun a_ w_ hn_ hBt hr hR hD hO hS => op_len (show a_.eval (.tmp 8) = .slice a_3 r_3.length c_3 from hD 2 rfl)),
          .norm 10 rfl rfl rfl (fun a_ w_ hn_ hBt hr hR hD hO hS => op_faR fa_den ((hR 3 rfl).trans f3)),
          .norm 11 rfl rfl rfl (fun a_ w_ hn_ hBt hr hR hD hO hS => op_ldden (show a_.eval (.tmp 10) = .pointer (some ⟨gs2 0, 2, none⟩) from hD 4 rfl) (b3.keep hBt trivial)),
          .norm 12 rfl rfl rfl (fun a_ w_ hn_ hBt hr hR hD hO hS => op_len (show a_.eval (.tmp 11) = .slice b_3 s_3.length d_3 from hD 5 rfl)),
          .norm 13 rfl rfl rfl (fun a_ w_ hn_ hBt hr hR hD hO hS => op_max (show a_.eval (.tmp 9) = .int .i64 (r_3.length : Int) from hD 3 rfl) (show a_.eval (.tmp 12) = .int .i64 (s_3.length : Int) from hD 6 rfl)),
          .norm 2 rfl rfl rfl (fun a_ w_ hn_ hBt hr hR hD hO hS => op_assign (show a_.eval (.tmp 13) = .int .i64 ((max r_3.length s_3.length : Nat) : Int) from hD 7 rfl)),
          trivial⟩
      · intro a4 w4 gs4 hn4 hd4 hBt hr hR hP hX hU
        replace hn := hn4; replace hd := hd4.trans hd
        have e2 : a4.eval (.tmp 2) = .int .i64 ((max r_3.length s_3.length : Nat) : Int) := hP 8 (by decide)
        have f2 := e2
        replace Ar := Ar.rl hr
        replace Sr := Sr.rl hr
        replace Dr := Dr.rl hr
        replace G3 := G3.rl hr
        replace A3 := A3.rl hr
        replace K3 := K3.rl hr
        replace S3 := S3.rl hr
        replace HB := HB.trans (hBt.below HB.size (UpOld.all (bx := []) trivial))
        clear hBt hr hR hP hX hU
        refine wp_ret ?_
        repeat (first | refine then_ret ?_ | refine scope_ret ?_ | refine block_ret ?_)
        have hlp_ := isLen_one ⟨r_3, G3.1.canon, G3.1.val, rfl⟩ hmP; have hlq_ := isLen_one ⟨s_3, K3.canon, K3.val, rfl⟩ hmQ
        exact bodyPost_ret (v := .int .i64 ((max r_3.length s_3.length : Nat) : Int)) (res_t rfl f2) hd ⟨_, rfl, (by rw [Eqs, hlp_, hlq_]), HB⟩
theorem has_rlimbs : Has Try.prog 22 := by unfold Has; kernel_rfl
theorem op_rlimbs {dst : Option Tmp} {ty : TypeId} {pos : String} {after : Array Edge} {guard : Option (Nat × Bool)} {a : Act} {w : World} {ats : Array TypeId} {i : Nat} {Br : Nat} {pr qr : Int} (Hr : IsR pr qr Br (a.eval (.tmp i)) w) (hL : 2 * (Br + 2) ≤ 100000) (mP mQ : Nat) (hmP : IsLen (((nm (tp pr qr) (tq qr))).natAbs : Int) mP) (hmQ : IsLen (dn (tp pr qr) (tq qr)) mQ) :
    Does Try.prog { dst, op := .call { callee := .value (.func 22), args := #[.tmp i], argTypes := ats }, type := ty, pos, after, guard } a.eval w fun v w' => Below w.heap.size w w' ∧ (Eqs (.int .i64 ((max mP mQ : Nat) : Int))) v w' := by
  obtain ⟨nr, ar, mr, cr, rs, br, kr, dr, rt, er, Ar, Sr, Vr, Lr, Mr⟩ := Hr
  refine does_call has_rlimbs _ (by simp only [List.map_toArray, List.map_cons, List.map_nil, er]) ((rlimbs_z w Br _ _ _ _ _ _ Ar Lr _ _ _ _ _ Sr Vr Mr hL mP mQ hmP hmQ).mono ?_)
  rintro e w' ⟨v, rfl, h1, hb⟩
  exact ⟨_, rfl, hb, h1⟩
end Lm
end Go.Proofs.Ytpofkigboedliaa

namespace Go.Proofs.Ytpofkigboedliaa
namespace Lm
open Go Go.RowKit
theorem cmpI_is0 {x y : Int} (h : cmpI x y = 0) : x = y := by
  rcases Int.lt_trichotomy x y with a | a | a
  · rw [cmpI_lt a] at h; omega
  · exact a
  · rw [cmpI_gt a] at h; omega
section
variable {dst : Option Tmp} {ty : TypeId} {pos : String} {after : Array Edge} {guard : Option (Nat × Bool)} {a : Act} {w : World} {ats : Array TypeId} {i j : Nat} {x y : Int} {L1 L2 : Nat}
theorem has_ndm : Has Try.prog 57 := by unfold Has; kernel_rfl
theorem op_ndm (hx : OutN x L1 (a.eval (.tmp i)) w) (hy : OutN y L2 (a.eval (.tmp j)) w) (h1 : L1 ≤ 200000) (h2 : L2 ≤ 200000) (h0 : 0 < y) :
    Does Try.prog { dst, op := .call { callee := .value (.func 57), args := #[.tmp i, .tmp j], argTypes := ats }, type := ty, pos, after, guard } a.eval w fun v w' => Below w.heap.size w w' ∧ Tup2 (OutN (x / y) (L1 + 6)) (OutN (x % y) (2 * L2 + 1)) v w' := by
  obtain ⟨n1, a1, c1, xs, e1, G1, l1⟩ := hx
  obtain ⟨n2, a2, c2, ys, e2, G2, l2⟩ := hy
  refine does_call has_ndm _ (by simp only [List.map_toArray, List.map_cons, List.map_nil, e1, e2]) ((Dm.ndivmod_z w n1 a1 c1 xs x G1 n2 a2 c2 ys y G2 (by omega) (by omega) (by omega)).mono ?_)
  rintro e w' ⟨nq, pq, qq, Q, nr, pr, qr, R, rfl, W1, W2, q1, q2, hb⟩
  exact ⟨_, rfl, hb, _, _, rfl, ⟨_, _, _, _, rfl, W1, by omega⟩, ⟨_, _, _, _, rfl, W2, by omega⟩⟩
end
set_option maxRecDepth 20000 in
set_option maxHeartbeats 2000000 in
theorem q3wholeF_z (w : World) (Br : Nat) (nr : Bool) (ar : Option Addr) (mr cr : Nat) (rs : List Int) (pr : Int) (Ar : Ag w nr ar mr cr rs pr) (Lr : rs.length ≤ Br) (br : Option Addr) (kr dr : Nat) (rt : List Int) (qr : Int) (Sr : Sl w (.slice br kr dr) rt) (Vr : val rt = qr) (Mr : rt.length ≤ Br) (hL : Br ≤ 10000) (h1 : (dn (tp pr qr) (tq qr)) = 1) :
    Calls Try.prog 23 #[.agg #[.bool nr, .slice ar mr cr, .slice br kr dr]] w fun e w' => ∃ v, e = .returned v ∧ (Tup2 (FrW w.heap.size (nm (tp pr qr) (tq qr)) (6 * Br + 10)) (Eqs (.bool true))) v w' ∧ Below w.heap.size w w' := by
  go_enter Try.func23, Try.ntmps23
  generalize hA : (Act.mk _ _) = aa
  have hn : aa.tmps.size = 16 := by rw [← hA]; rfl
  have hd : aa.defers = [] := by rw [← hA]
  have f0 : aa.eval (.tmp 0) = .agg #[.bool nr, .slice ar mr cr, .slice br kr dr] := by rw [← hA]; rfl
  clear hA
  have HB : Below w.heap.size w w := Below.refl _ _
  have Dr : Ag w false br kr dr rt qr := ⟨Sr, Vr⟩
  refine wp_seq ?_
  refine region4 [some 1, some 2, some 3] [(fun _ _ => True), (fun _ _ => True), Eqs ((.bool false))] [⟨R3, some 0, 0, 1, .agg #[.bool nr, .slice ar mr cr, .slice br kr dr], none, []⟩, ⟨W2, some 1, 0, 2, .agg #[.bool false, .slice none 0 0], none, []⟩] [] (by kernel_rfl) hn rfl (by kernel_rfl) (by kernel_rfl) (by kernel_rfl) (by kernel_rfl) (by kernel_rfl) (by kernel_rfl) ⟨True.mono4, True.mono4, Eqs.mono4 _, trivial⟩ (ok_cons R3ok (ok_cons W2ok ok_nil)) (IsOld.all (bx := [⟨R3, some 0, 0, 1, .agg #[.bool nr, .slice ar mr cr, .slice br kr dr], none, []⟩, ⟨W2, some 1, 0, 2, .agg #[.bool false, .slice none 0 0], none, []⟩]) ⟨someNe, someNe, trivial⟩) (DisOld.all (bx := [⟨R3, some 0, 0, 1, .agg #[.bool nr, .slice ar mr cr, .slice br kr dr], none, []⟩, ⟨W2, some 1, 0, 2, .agg #[.bool false, .slice none 0 0], none, []⟩]) ⟨someNe, someNe, trivial⟩) ?_ ?_
  · exact ⟨.alloc 0 _ rfl rfl (.inr ⟨_, rfl, r3_cs, fun a_ hR => (hR 0 rfl).trans f0⟩) rfl rfl rfl rfl rfl,
      .alloc 1 _ rfl rfl (.inl ⟨rfl, rfl⟩) rfl rfl rfl rfl rfl,
      .norm 3 rfl rfl rfl (fun a_ w_ hn_ hBt hr hR hD hO hS => op_assign rfl),
      trivial⟩
  · intro a1 w1 gs1 hn1 hd1 hBt hr hR hP hX hU
    replace hn := hn1; replace hd := hd1.trans hd
    have ne1_2 : gs1 0 ≠ gs1 1 := hU 0 1 (by simp) (by simp) (by decide)
    have b1 : BoxV R3 w1 (gs1 0) (.agg #[.bool nr, .slice ar mr cr, .slice br kr dr]) := (hX 0 _ rfl).2.2.2
    have f1 := (hX 0 _ rfl).1
    have u1 : w.heap.size ≤ gs1 0 := Nat.le_trans HB.size ((hX 0 _ rfl).2.2.1 (by simp))
    have b2 : BoxV W2 w1 (gs1 1) (.agg #[.bool false, .slice none 0 0]) := (hX 1 _ rfl).2.2.2
    have f2 := (hX 1 _ rfl).1
    have u2 : w.heap.size ≤ gs1 1 := Nat.le_trans HB.size ((hX 1 _ rfl).2.2.1 (by simp))
    have e3 : a1.eval (.tmp 3) = (.bool false) := hP 2 (by decide)
    have f3 := e3
    replace Ar := Ar.rl hr
    replace Sr := Sr.rl hr
    replace Dr := Dr.rl hr
    replace HB := HB.trans (hBt.below HB.size (UpOld.all (bx := [⟨R3, some 0, 0, 1, .agg #[.bool nr, .slice ar mr cr, .slice br kr dr], none, []⟩, ⟨W2, some 1, 0, 2, .agg #[.bool false, .slice none 0 0], none, []⟩]) ⟨someNe, someNe, trivial⟩))
    clear hBt hr hR hP hX hU
    refine wp_seq ?_
    refine region4 [some 5, some 6, some 4, none] [Eqs (.agg #[.bool nr, .slice ar mr cr, .slice br kr dr]), OutQ ((nm (tp pr qr) (tq qr))) ((dn (tp pr qr) (tq qr))) (6 * (Br) + 10), (fun _ _ => True), (fun _ _ => True)] [⟨Q4, some 2, 0, 4, .agg #[.bool false, .slice none 0 0, .bool false, .slice none 0 0], some (3, 6, 1), []⟩] [] (by kernel_rfl) hn rfl (by kernel_rfl) (by kernel_rfl) (by kernel_rfl) (by kernel_rfl) (by kernel_rfl) (by kernel_rfl) ⟨Eqs.mono4 _, OutQ.mono4 _ _ _, True.mono4, True.mono4, trivial⟩ (ok_cons Q4ok ok_nil) (IsOld.all (bx := [⟨Q4, some 2, 0, 4, .agg #[.bool false, .slice none 0 0, .bool false, .slice none 0 0], some (3, 6, 1), []⟩]) ⟨someNe, trivial⟩) (DisOld.all (bx := [⟨Q4, some 2, 0, 4, .agg #[.bool false, .slice none 0 0, .bool false, .slice none 0 0], some (3, 6, 1), []⟩]) ⟨someNe, trivial⟩) ?_ ?_
    · exact ⟨.norm 5 rfl rfl rfl (fun a_ w_ hn_ hBt hr hR hD hO hS => op_loadv R3ok ((hR 1 rfl).trans f1) (b1.keep hBt ⟨someNe, trivial⟩)),
        .norm 6 rfl rfl rfl (fun a_ w_ hn_ hBt hr hR hD hO hS => op_qread (Br := Br) (isr_eq (show a_.eval (.tmp 5) = .agg #[.bool nr, .slice ar mr cr, .slice br kr dr] from hD 0 rfl) (Ar.rl hr) (Sr.rl hr) Vr Lr Mr) (by omega)),
        .alloc 0 _ rfl rfl (.inl ⟨rfl, rfl⟩) rfl rfl rfl rfl rfl,
        .store 0 _ _ _ rfl rfl rfl rfl rfl rfl rfl (fun ia h => by cases h; rfl) rfl rfl rfl OutQ.cs,
        trivial⟩
    · intro a2 w2 gs2 hn2 hd2 hBt hr hR hP hX hU
      replace hn := hn2; replace hd := hd2.trans hd
      have ne2_4 : (gs1 1) ≠ gs2 0 := by have h1 := b2.lt; have h2 := (hX 0 _ rfl).2.2.1 (by simp); omega
      replace b2 := b2.keep hBt ⟨someNe, trivial⟩
      obtain ⟨n_3, a_3, c_3, r_3, o_3, b_3, d_3, s_3, e6, G3, K3, l3, k3⟩ : OutQ ((nm (tp pr qr) (tq qr))) ((dn (tp pr qr) (tq qr))) (6 * (Br) + 10) (a2.eval (.tmp 6)) w2 := hP 1 (by decide)
      have b4 : BoxV Q4 w2 (gs2 0) (.agg #[.bool n_3, .slice a_3 r_3.length c_3, .bool o_3, .slice b_3 s_3.length d_3]) := boxv_of (hX 0 _ rfl).2.2.2 e6
      have f4 := (hX 0 _ rfl).1
      have u4 : w.heap.size ≤ gs2 0 := Nat.le_trans HB.size ((hX 0 _ rfl).2.2.1 (by simp))
      replace f2 := (hR 2 rfl).trans f2
      replace f3 := (hR 3 rfl).trans f3
      replace Ar := Ar.rl hr
      replace Sr := Sr.rl hr
      replace Dr := Dr.rl hr
      replace HB := HB.trans (hBt.below HB.size (UpOld.all (bx := [⟨Q4, some 2, 0, 4, .agg #[.bool false, .slice none 0 0, .bool false, .slice none 0 0], some (3, 6, 1), []⟩]) ⟨someNe, trivial⟩))
      clear hBt hr hR hP hX hU
      refine wp_seq ?_
      refine wp_seq ?_
      refine region4 [some 7, some 8, some 9, some 10, some 11] [Eqs (.pointer (some ⟨gs2 0, 2, none⟩)), Eqs (.agg #[.bool o_3, .slice b_3 s_3.length d_3]), OutN (1) (5), Eqs (.int .i64 (cmpI (dn (tp pr qr) (tq qr)) 1)), Eqs (.bool (!decide ((cmpI (dn (tp pr qr) (tq qr)) 1) = 0)))] [] [] (by kernel_rfl) hn rfl (by kernel_rfl) (by kernel_rfl) (by kernel_rfl) (by kernel_rfl) (by kernel_rfl) (by kernel_rfl) ⟨Eqs.mono4 _, Eqs.mono4 _, OutN.mono4 _ _, Eqs.mono4 _, Eqs.mono4 _, trivial⟩ ok_nil (IsOld.all (bx := []) trivial) (DisOld.all (bx := []) trivial) ?_ ?_
      · exact ⟨.norm 7 rfl rfl rfl (fun a_ w_ hn_ hBt hr hR hD hO hS => op_faQ fa_q1 ((hR 4 rfl).trans f4)),
          .norm 8 rfl rfl rfl (fun a_ w_ hn_ hBt hr hR hD hO hS => op_ldq1 (show a_.eval (.tmp 7) = .pointer (some ⟨gs2 0, 2, none⟩) from hD 0 rfl) (b4.keep hBt trivial)),
          .norm 9 rfl rfl rfl (fun a_ w_ hn_ hBt hr hR hD hO hS => op_nint (by omega) (by omega)),
          .norm 10 rfl rfl rfl (fun a_ w_ hn_ hBt hr hR hD hO hS => op_ncmp (outn_eq (show a_.eval (.tmp 8) = .agg #[.bool o_3, .slice b_3 s_3.length d_3] from hD 1 rfl) (K3.rl hr) k3) (show OutN (1) (5) (a_.eval (.tmp 9)) w_ from hD 2 rfl)),
          .norm 11 rfl rfl rfl (fun a_ w_ hn_ hBt hr hR hD hO hS => op_neqk (show a_.eval (.tmp 10) = .int .i64 (cmpI (dn (tp pr qr) (tq qr)) 1) from hD 3 rfl)),
          trivial⟩
      · intro a4 w4 gs4 hn4 hd4 hBt hr hR hP hX hU
        replace hn := hn4; replace hd := hd4.trans hd
        replace b2 := b2.keep hBt trivial
        replace b4 := b4.keep hBt trivial
        replace f2 := (hR 2 rfl).trans f2
        replace f3 := (hR 3 rfl).trans f3
        replace f4 := (hR 4 rfl).trans f4
        have e11 : a4.eval (.tmp 11) = .bool (!decide ((cmpI (dn (tp pr qr) (tq qr)) 1) = 0)) := hP 4 (by decide)
        have f11 := e11
        replace Ar := Ar.rl hr
        replace Sr := Sr.rl hr
        replace Dr := Dr.rl hr
        replace G3 := G3.rl hr
        replace K3 := K3.rl hr
        replace HB := HB.trans (hBt.below HB.size (UpOld.all (bx := []) trivial))
        clear hBt hr hR hP hX hU
        refine wp_cond_split f11 (fun hc11 => ?_) (fun hc11 => ?_)
        · skip
          exact absurd (cmpI_eq h1) (by simpa using hc11)
        · skip
          refine wp_skip ?_
          refine wp_seq ?_
          refine region4 [some 13, some 14, some 15, none, some 3] [Eqs (.pointer (some ⟨gs2 0, 0, none⟩)), Eqs (.agg #[.bool n_3, .slice a_3 r_3.length c_3]), FrW (w.heap.size) ((nm (tp pr qr) (tq qr))) (6 * (Br) + 10), (fun _ _ => True), Eqs ((.bool true))] [⟨W2, none, (gs1 1), 2, .agg #[.bool false, .slice none 0 0], some (3, 15, 2), []⟩] [] (by kernel_rfl) hn rfl (by kernel_rfl) (by kernel_rfl) (by kernel_rfl) (by kernel_rfl) (by kernel_rfl) (by kernel_rfl) ⟨Eqs.mono4 _, Eqs.mono4 _, FrW.mono4 _ _ _, True.mono4, Eqs.mono4 _, trivial⟩ (ok_cons W2ok ok_nil) (IsOld.all (bx := [⟨W2, none, (gs1 1), 2, .agg #[.bool false, .slice none 0 0], some (3, 15, 2), []⟩]) ⟨fun _ => ⟨f2, b2⟩, trivial⟩) (DisOld.all (bx := [⟨W2, none, (gs1 1), 2, .agg #[.bool false, .slice none 0 0], some (3, 15, 2), []⟩]) ⟨fun _ => trivial, trivial⟩) ?_ ?_
          · exact ⟨.norm 13 rfl rfl rfl (fun a_ w_ hn_ hBt hr hR hD hO hS => op_faQ fa_q0 ((hR 4 rfl).trans f4)),
              .norm 14 rfl rfl rfl (fun a_ w_ hn_ hBt hr hR hD hO hS => op_ldq0 (show a_.eval (.tmp 13) = .pointer (some ⟨gs2 0, 0, none⟩) from hD 0 rfl) (b4.keep hBt ⟨fun _ => ne2_4, trivial⟩)),
              .norm 15 rfl rfl rfl (fun a_ w_ hn_ hBt hr hR hD hO hS => op_ntoldF (outn_eq (show a_.eval (.tmp 14) = .agg #[.bool n_3, .slice a_3 r_3.length c_3] from hD 1 rfl) (G3.rl hr) l3) (by omega) (Nat.le_trans HB.size hr.size)),
              .store 0 _ _ _ rfl rfl rfl rfl rfl rfl rfl (fun ia h => by cases h) rfl rfl rfl FrW.cs,
              .norm 3 rfl rfl rfl (fun a_ w_ hn_ hBt hr hR hD hO hS => op_assign rfl),
              trivial⟩
          · intro a5 w5 gs5 hn5 hd5 hBt hr hR hP hX hU
            replace hn := hn5; replace hd := hd5.trans hd
            obtain ⟨n_6, a_6, c_6, r_6, B6, T6, e15, F6, fb6, ft6, l6⟩ : FrW (w.heap.size) ((nm (tp pr qr) (tq qr))) (6 * (Br) + 10) (a5.eval (.tmp 15)) w5 := hP 2 (by decide)
            have G6 := F6.wh; have A6 := G6.ag
            have HT6 : SzGe T6 w5 := ft6
            have b2 : BoxV W2 w5 ((gs1 1)) (.agg #[.bool n_6, .slice a_6 r_6.length c_6]) := boxv_old ((hX 0 _ rfl).2.1 rfl) (hX 0 _ rfl).2.2.2 e15
            replace f2 : a5.eval (.tmp 2) = _ := (hR 2 rfl).trans f2
            have e3 : a5.eval (.tmp 3) = (.bool true) := hP 4 (by decide)
            have f3 := e3
            replace Ar := Ar.rl hr
            replace Sr := Sr.rl hr
            replace Dr := Dr.rl hr
            replace G3 := G3.rl hr
            replace K3 := K3.rl hr
            replace HB := HB.trans (hBt.below HB.size (UpOld.all (bx := [⟨W2, none, (gs1 1), 2, .agg #[.bool false, .slice none 0 0], some (3, 15, 2), []⟩]) ⟨fun _ => u2, trivial⟩))
            clear hBt hr hR hP hX hU
            refine wp_ret ?_
            repeat (first | refine then_ret ?_ | refine scope_ret ?_ | refine block_ret ?_)
            exact bodyPost_ret (v := .tuple #[.agg #[.bool n_6, .slice a_6 r_6.length c_6], (.bool true)]) (res_ct rfl f2 (lv_W2 b2) f3) hd ⟨_, rfl, ⟨_, _, rfl, frw_eq F6 fb6 HT6.le l6 (by omega), rfl⟩, HB⟩
theorem has_q3wholeF : Has Try.prog 23 := by unfold Has; kernel_rfl
theorem op_q3wholeF {dst : Option Tmp} {ty : TypeId} {pos : String} {after : Array Edge} {guard : Option (Nat × Bool)} {a : Act} {w : World} {ats : Array TypeId} {i : Nat} {Br : Nat} {pr qr : Int} (Hr : IsR pr qr Br (a.eval (.tmp i)) w) (hL : Br ≤ 10000) (h1 : (dn (tp pr qr) (tq qr)) = 1) :
    Does Try.prog { dst, op := .call { callee := .value (.func 23), args := #[.tmp i], argTypes := ats }, type := ty, pos, after, guard } a.eval w fun v w' => Below w.heap.size w w' ∧ (Tup2 (FrW w.heap.size (nm (tp pr qr) (tq qr)) (6 * Br + 10)) (Eqs (.bool true))) v w' := by
  obtain ⟨nr, ar, mr, cr, rs, br, kr, dr, rt, er, Ar, Sr, Vr, Lr, Mr⟩ := Hr
  refine does_call has_q3wholeF _ (by simp only [List.map_toArray, List.map_cons, List.map_nil, er]) ((q3wholeF_z w Br _ _ _ _ _ _ Ar Lr _ _ _ _ _ Sr Vr Mr hL h1).mono ?_)
  rintro e w' ⟨v, rfl, h1, hb⟩
  exact ⟨_, rfl, hb, h1⟩
set_option maxRecDepth 20000 in
set_option maxHeartbeats 2000000 in
theorem q3wholeF0_z (w : World) (Br : Nat) (nr : Bool) (ar : Option Addr) (mr cr : Nat) (rs : List Int) (pr : Int) (Ar : Ag w nr ar mr cr rs pr) (Lr : rs.length ≤ Br) (br : Option Addr) (kr dr : Nat) (rt : List Int) (qr : Int) (Sr : Sl w (.slice br kr dr) rt) (Vr : val rt = qr) (Mr : rt.length ≤ Br) (hL : Br ≤ 10000) (h1 : (dn (tp pr qr) (tq qr)) ≠ 1) :
    Calls Try.prog 23 #[.agg #[.bool nr, .slice ar mr cr, .slice br kr dr]] w fun e w' => ∃ v, e = .returned v ∧ (Tup2 (FrW w.heap.size 0 (6 * Br + 10)) (Eqs (.bool false))) v w' ∧ Below w.heap.size w w' := by
  go_enter Try.func23, Try.ntmps23
  generalize hA : (Act.mk _ _) = aa
  have hn : aa.tmps.size = 16 := by rw [← hA]; rfl
  have hd : aa.defers = [] := by rw [← hA]
  have f0 : aa.eval (.tmp 0) = .agg #[.bool nr, .slice ar mr cr, .slice br kr dr] := by rw [← hA]; rfl
  clear hA
  have HB : Below w.heap.size w w := Below.refl _ _
  have Dr : Ag w false br kr dr rt qr := ⟨Sr, Vr⟩
  refine wp_seq ?_
  refine region4 [some 1, some 2, some 3] [(fun _ _ => True), (fun _ _ => True), Eqs ((.bool false))] [⟨R3, some 0, 0, 1, .agg #[.bool nr, .slice ar mr cr, .slice br kr dr], none, []⟩, ⟨W2, some 1, 0, 2, .agg #[.bool false, .slice none 0 0], none, []⟩] [] (by kernel_rfl) hn rfl (by kernel_rfl) (by kernel_rfl) (by kernel_rfl) (by kernel_rfl) (by kernel_rfl) (by kernel_rfl) ⟨True.mono4, True.mono4, Eqs.mono4 _, trivial⟩ (ok_cons R3ok (ok_cons W2ok ok_nil)) (IsOld.all (bx := [⟨R3, some 0, 0, 1, .agg #[.bool nr, .slice ar mr cr, .slice br kr dr], none, []⟩, ⟨W2, some 1, 0, 2, .agg #[.bool false, .slice none 0 0], none, []⟩]) ⟨someNe, someNe, trivial⟩) (DisOld.all (bx := [⟨R3, some 0, 0, 1, .agg #[.bool nr, .slice ar mr cr, .slice br kr dr], none, []⟩, ⟨W2, some 1, 0, 2, .agg #[.bool false, .slice none 0 0], none, []⟩]) ⟨someNe, someNe, trivial⟩) ?_ ?_
  · exact ⟨.alloc 0 _ rfl rfl (.inr ⟨_, rfl, r3_cs, fun a_ hR => (hR 0 rfl).trans f0⟩) rfl rfl rfl rfl rfl,
      .alloc 1 _ rfl rfl (.inl ⟨rfl, rfl⟩) rfl rfl rfl rfl rfl,
      .norm 3 rfl rfl rfl (fun a_ w_ hn_ hBt hr hR hD hO hS => op_assign rfl),
      trivial⟩
  · intro a1 w1 gs1 hn1 hd1 hBt hr hR hP hX hU
    replace hn := hn1; replace hd := hd1.trans hd
    have ne1_2 : gs1 0 ≠ gs1 1 := hU 0 1 (by simp) (by simp) (by decide)
    have b1 : BoxV R3 w1 (gs1 0) (.agg #[.bool nr, .slice ar mr cr, .slice br kr dr]) := (hX 0 _ rfl).2.2.2
    have f1 := (hX 0 _ rfl).1
    have u1 : w.heap.size ≤ gs1 0 := Nat.le_trans HB.size ((hX 0 _ rfl).2.2.1 (by simp))
    have b2 : BoxV W2 w1 (gs1 1) (.agg #[.bool false, .slice none 0 0]) := (hX 1 _ rfl).2.2.2
    have f2 := (hX 1 _ rfl).1
    have u2 : w.heap.size ≤ gs1 1 := Nat.le_trans HB.size ((hX 1 _ rfl).2.2.1 (by simp))
    have e3 : a1.eval (.tmp 3) = (.bool false) := hP 2 (by decide)
    have f3 := e3
    replace Ar := Ar.rl hr
    replace Sr := Sr.rl hr
    replace Dr := Dr.rl hr
    replace HB := HB.trans (hBt.below HB.size (UpOld.all (bx := [⟨R3, some 0, 0, 1, .agg #[.bool nr, .slice ar mr cr, .slice br kr dr], none, []⟩, ⟨W2, some 1, 0, 2, .agg #[.bool false, .slice none 0 0], none, []⟩]) ⟨someNe, someNe, trivial⟩))
    clear hBt hr hR hP hX hU
    refine wp_seq ?_
    refine region4 [some 5, some 6, some 4, none] [Eqs (.agg #[.bool nr, .slice ar mr cr, .slice br kr dr]), OutQ ((nm (tp pr qr) (tq qr))) ((dn (tp pr qr) (tq qr))) (6 * (Br) + 10), (fun _ _ => True), (fun _ _ => True)] [⟨Q4, some 2, 0, 4, .agg #[.bool false, .slice none 0 0, .bool false, .slice none 0 0], some (3, 6, 1), []⟩] [] (by kernel_rfl) hn rfl (by kernel_rfl) (by kernel_rfl) (by kernel_rfl) (by kernel_rfl) (by kernel_rfl) (by kernel_rfl) ⟨Eqs.mono4 _, OutQ.mono4 _ _ _, True.mono4, True.mono4, trivial⟩ (ok_cons Q4ok ok_nil) (IsOld.all (bx := [⟨Q4, some 2, 0, 4, .agg #[.bool false, .slice none 0 0, .bool false, .slice none 0 0], some (3, 6, 1), []⟩]) ⟨someNe, trivial⟩) (DisOld.all (bx := [⟨Q4, some 2, 0, 4, .agg #[.bool false, .slice none 0 0, .bool false, .slice none 0 0], some (3, 6, 1), []⟩]) ⟨someNe, trivial⟩) ?_ ?_
    · exact ⟨.norm 5 rfl rfl rfl (fun a_ w_ hn_ hBt hr hR hD hO hS => op_loadv R3ok ((hR 1 rfl).trans f1) (b1.keep hBt ⟨someNe, trivial⟩)),
        .norm 6 rfl rfl rfl (fun a_ w_ hn_ hBt hr hR hD hO hS => op_qread (Br := Br) (isr_eq (show a_.eval (.tmp 5) = .agg #[.bool nr, .slice ar mr cr, .slice br kr dr] from hD 0 rfl) (Ar.rl hr) (Sr.rl hr) Vr Lr Mr) (by omega)),
        .alloc 0 _ rfl rfl (.inl ⟨rfl, rfl⟩) rfl rfl rfl rfl rfl,
        .store 0 _ _ _ rfl rfl rfl rfl rfl rfl rfl (fun ia h => by cases h; rfl) rfl rfl rfl OutQ.cs,
        trivial⟩
    · intro a2 w2 gs2 hn2 hd2 hBt hr hR hP hX hU
      replace hn := hn2; replace hd := hd2.trans hd
      have ne2_4 : (gs1 1) ≠ gs2 0 := by have h1 := b2.lt; have h2 := (hX 0 _ rfl).2.2.1 (by simp); omega
      replace b2 := b2.keep hBt ⟨someNe, trivial⟩
      obtain ⟨n_3, a_3, c_3, r_3, o_3, b_3, d_3, s_3, e6, G3, K3, l3, k3⟩ : OutQ ((nm (tp pr qr) (tq qr))) ((dn (tp pr qr) (tq qr))) (6 * (Br) + 10) (a2.eval (.tmp 6)) w2 := hP 1 (by decide)
      have b4 : BoxV Q4 w2 (gs2 0) (.agg #[.bool n_3, .slice a_3 r_3.length c_3, .bool o_3, .slice b_3 s_3.length d_3]) := boxv_of (hX 0 _ rfl).2.2.2 e6
      have f4 := (hX 0 _ rfl).1
      have u4 : w.heap.size ≤ gs2 0 := Nat.le_trans HB.size ((hX 0 _ rfl).2.2.1 (by simp))
      replace f2 := (hR 2 rfl).trans f2
      replace f3 := (hR 3 rfl).trans f3
      replace Ar := Ar.rl hr
      replace Sr := Sr.rl hr
      replace Dr := Dr.rl hr
      replace HB := HB.trans (hBt.below HB.size (UpOld.all (bx := [⟨Q4, some 2, 0, 4, .agg #[.bool false, .slice none 0 0, .bool false, .slice none 0 0], some (3, 6, 1), []⟩]) ⟨someNe, trivial⟩))
      clear hBt hr hR hP hX hU
      refine wp_seq ?_
      refine wp_seq ?_
      refine region4 [some 7, some 8, some 9, some 10, some 11] [Eqs (.pointer (some ⟨gs2 0, 2, none⟩)), Eqs (.agg #[.bool o_3, .slice b_3 s_3.length d_3]), OutN (1) (5), Eqs (.int .i64 (cmpI (dn (tp pr qr) (tq qr)) 1)), Eqs (.bool (!decide ((cmpI (dn (tp pr qr) (tq qr)) 1) = 0)))] [] [] (by kernel_rfl) hn rfl (by kernel_rfl) (by kernel_rfl) (by kernel_rfl) (by kernel_rfl) (by kernel_rfl) (by kernel_rfl) ⟨Eqs.mono4 _, Eqs.mono4 _, OutN.mono4 _ _, Eqs.mono4 _, Eqs.mono4 _, trivial⟩ ok_nil (IsOld.all (bx := []) trivial) (DisOld.all (bx := []) trivial) ?_ ?_
      · exact ⟨.norm 7 rfl rfl rfl (fun a_ w_ hn_ hBt hr hR hD hO hS => op_faQ fa_q1 ((hR 4 rfl).trans f4)),
          .norm 8 rfl rfl rfl (fun a_ w_ hn_ hBt hr hR hD hO hS => op_ldq1 (show a_.eval (.tmp 7) = .pointer (some ⟨gs2 0, 2, none⟩) from hD 0 rfl) (b4.keep hBt trivial)),
          .norm 9 rfl rfl rfl (fun a_ w_ hn_ hBt hr hR hD hO hS => op_nint (by omega) (by omega)),
          .norm 10 rfl rfl rfl (fun a_ w_ hn_ hBt hr hR hD hO hS => op_ncmp (outn_eq (show a_.eval (.tmp 8) = .agg #[.bool o_3, .slice b_3 s_3.length d_3] from hD 1 rfl) (K3.rl hr) k3) (show OutN (1) (5) (a_.eval (.tmp 9)) w_ from hD 2 rfl)),
          .norm 11 rfl rfl rfl (fun a_ w_ hn_ hBt hr hR hD hO hS => op_neqk (show a_.eval (.tmp 10) = .int .i64 (cmpI (dn (tp pr qr) (tq qr)) 1) from hD 3 rfl)),
          trivial⟩
      · intro a4 w4 gs4 hn4 hd4 hBt hr hR hP hX hU
        replace hn := hn4; replace hd := hd4.trans hd
        replace b2 := b2.keep hBt trivial
        replace b4 := b4.keep hBt trivial
        replace f2 := (hR 2 rfl).trans f2
        replace f3 := (hR 3 rfl).trans f3
        replace f4 := (hR 4 rfl).trans f4
        have e11 : a4.eval (.tmp 11) = .bool (!decide ((cmpI (dn (tp pr qr) (tq qr)) 1) = 0)) := hP 4 (by decide)
        have f11 := e11
        replace Ar := Ar.rl hr
        replace Sr := Sr.rl hr
        replace Dr := Dr.rl hr
        replace G3 := G3.rl hr
        replace K3 := K3.rl hr
        replace HB := HB.trans (hBt.below HB.size (UpOld.all (bx := []) trivial))
        clear hBt hr hR hP hX hU
        refine wp_cond_split f11 (fun hc11 => ?_) (fun hc11 => ?_)
        · skip
          refine wp_seq ?_
          refine region4 [some 12, none, some 3] [Eqs (.agg #[.bool false, .slice none 0 0]), (fun _ _ => True), Eqs ((.bool false))] [⟨W2, none, (gs1 1), 2, .agg #[.bool false, .slice none 0 0], some (1, 12, 0), []⟩] [] (by kernel_rfl) hn rfl (by kernel_rfl) (by kernel_rfl) (by kernel_rfl) (by kernel_rfl) (by kernel_rfl) (by kernel_rfl) ⟨Eqs.mono4 _, True.mono4, Eqs.mono4 _, trivial⟩ (ok_cons W2ok ok_nil) (IsOld.all (bx := [⟨W2, none, (gs1 1), 2, .agg #[.bool false, .slice none 0 0], some (1, 12, 0), []⟩]) ⟨fun _ => ⟨f2, b2⟩, trivial⟩) (DisOld.all (bx := [⟨W2, none, (gs1 1), 2, .agg #[.bool false, .slice none 0 0], some (1, 12, 0), []⟩]) ⟨fun _ => trivial, trivial⟩) ?_ ?_
          · exact ⟨.norm 12 rfl rfl rfl (fun a_ w_ hn_ hBt hr hR hD hO hS => op_bW0),
              .store 0 _ _ _ rfl rfl rfl rfl rfl rfl rfl (fun ia h => by cases h) rfl rfl rfl (eqs_cs w2_cs),
              .norm 3 rfl rfl rfl (fun a_ w_ hn_ hBt hr hR hD hO hS => op_assign rfl),
              trivial⟩
          · intro a5 w5 gs5 hn5 hd5 hBt hr hR hP hX hU
            replace hn := hn5; replace hd := hd5.trans hd
            replace b4 := b4.keep hBt ⟨fun _ => ne2_4, trivial⟩
            have e12 : a5.eval (.tmp 12) = .agg #[.bool false, .slice none 0 0] := hP 0 (by decide)
            have b2 : BoxV W2 w5 ((gs1 1)) (.agg #[.bool false, .slice none 0 0]) := boxv_old ((hX 0 _ rfl).2.1 rfl) (hX 0 _ rfl).2.2.2 e12
            replace f2 : a5.eval (.tmp 2) = _ := (hR 2 rfl).trans f2
            replace f4 := (hR 4 rfl).trans f4
            have e3 : a5.eval (.tmp 3) = (.bool false) := hP 2 (by decide)
            have f3 := e3
            replace Ar := Ar.rl hr
            replace Sr := Sr.rl hr
            replace Dr := Dr.rl hr
            replace G3 := G3.rl hr
            replace K3 := K3.rl hr
            replace HB := HB.trans (hBt.below HB.size (UpOld.all (bx := [⟨W2, none, (gs1 1), 2, .agg #[.bool false, .slice none 0 0], some (1, 12, 0), []⟩]) ⟨fun _ => u2, trivial⟩))
            clear hBt hr hR hP hX hU
            refine wp_ret ?_
            repeat (first | refine then_ret ?_ | refine scope_ret ?_ | refine block_ret ?_)
            exact bodyPost_ret (v := .tuple #[.agg #[.bool false, .slice none 0 0], (.bool false)]) (res_ct rfl f2 (lv_W2 b2) f3) hd ⟨_, rfl, ⟨_, _, rfl, frw_zero HB.size _, rfl⟩, HB⟩
        · skip
          exact absurd (cmpI_is0 (by simpa using hc11)) h1
theorem has_q3wholeF0 : Has Try.prog 23 := by unfold Has; kernel_rfl
theorem op_q3wholeF0 {dst : Option Tmp} {ty : TypeId} {pos : String} {after : Array Edge} {guard : Option (Nat × Bool)} {a : Act} {w : World} {ats : Array TypeId} {i : Nat} {Br : Nat} {pr qr : Int} (Hr : IsR pr qr Br (a.eval (.tmp i)) w) (hL : Br ≤ 10000) (h1 : (dn (tp pr qr) (tq qr)) ≠ 1) :
    Does Try.prog { dst, op := .call { callee := .value (.func 23), args := #[.tmp i], argTypes := ats }, type := ty, pos, after, guard } a.eval w fun v w' => Below w.heap.size w w' ∧ (Tup2 (FrW w.heap.size 0 (6 * Br + 10)) (Eqs (.bool false))) v w' := by
  obtain ⟨nr, ar, mr, cr, rs, br, kr, dr, rt, er, Ar, Sr, Vr, Lr, Mr⟩ := Hr
  refine does_call has_q3wholeF0 _ (by simp only [List.map_toArray, List.map_cons, List.map_nil, er]) ((q3wholeF0_z w Br _ _ _ _ _ _ Ar Lr _ _ _ _ _ Sr Vr Mr hL h1).mono ?_)
  rintro e w' ⟨v, rfl, h1, hb⟩
  exact ⟨_, rfl, hb, h1⟩
set_option maxRecDepth 20000 in
set_option maxHeartbeats 2000000 in
theorem q3floorF_z (w : World) (Br : Nat) (nr : Bool) (ar : Option Addr) (mr cr : Nat) (rs : List Int) (pr : Int) (Ar : Ag w nr ar mr cr rs pr) (Lr : rs.length ≤ Br) (br : Option Addr) (kr dr : Nat) (rt : List Int) (qr : Int) (Sr : Sl w (.slice br kr dr) rt) (Vr : val rt = qr) (Mr : rt.length ≤ Br) (hL : Br ≤ 10000) :
    Calls Try.prog 29 #[.agg #[.bool nr, .slice ar mr cr, .slice br kr dr]] w fun e w' => ∃ v, e = .returned v ∧ (FrW w.heap.size ((nm (tp pr qr) (tq qr)) / (dn (tp pr qr) (tq qr))) (6 * Br + 16)) v w' ∧ Below w.heap.size w w' := by
  go_enter Try.func29, Try.ntmps29
  generalize hA : (Act.mk _ _) = aa
  have hn : aa.tmps.size = 18 := by rw [← hA]; rfl
  have hd : aa.defers = [] := by rw [← hA]
  have f0 : aa.eval (.tmp 0) = .agg #[.bool nr, .slice ar mr cr, .slice br kr dr] := by rw [← hA]; rfl
  clear hA
  have HB : Below w.heap.size w w := Below.refl _ _
  have Dr : Ag w false br kr dr rt qr := ⟨Sr, Vr⟩
  refine wp_seq ?_
  refine region4 [some 1, some 2] [(fun _ _ => True), (fun _ _ => True)] [⟨R3, some 0, 0, 1, .agg #[.bool nr, .slice ar mr cr, .slice br kr dr], none, []⟩, ⟨W2, some 1, 0, 2, .agg #[.bool false, .slice none 0 0], none, []⟩] [] (by kernel_rfl) hn rfl (by kernel_rfl) (by kernel_rfl) (by kernel_rfl) (by kernel_rfl) (by kernel_rfl) (by kernel_rfl) ⟨True.mono4, True.mono4, trivial⟩ (ok_cons R3ok (ok_cons W2ok ok_nil)) (IsOld.all (bx := [⟨R3, some 0, 0, 1, .agg #[.bool nr, .slice ar mr cr, .slice br kr dr], none, []⟩, ⟨W2, some 1, 0, 2, .agg #[.bool false, .slice none 0 0], none, []⟩]) ⟨someNe, someNe, trivial⟩) (DisOld.all (bx := [⟨R3, some 0, 0, 1, .agg #[.bool nr, .slice ar mr cr, .slice br kr dr], none, []⟩, ⟨W2, some 1, 0, 2, .agg #[.bool false, .slice none 0 0], none, []⟩]) ⟨someNe, someNe, trivial⟩) ?_ ?_
  · exact ⟨.alloc 0 _ rfl rfl (.inr ⟨_, rfl, r3_cs, fun a_ hR => (hR 0 rfl).trans f0⟩) rfl rfl rfl rfl rfl,
      .alloc 1 _ rfl rfl (.inl ⟨rfl, rfl⟩) rfl rfl rfl rfl rfl,
      trivial⟩
  · intro a1 w1 gs1 hn1 hd1 hBt hr hR hP hX hU
    replace hn := hn1; replace hd := hd1.trans hd
    have ne1_2 : gs1 0 ≠ gs1 1 := hU 0 1 (by simp) (by simp) (by decide)
    have b1 : BoxV R3 w1 (gs1 0) (.agg #[.bool nr, .slice ar mr cr, .slice br kr dr]) := (hX 0 _ rfl).2.2.2
    have f1 := (hX 0 _ rfl).1
    have u1 : w.heap.size ≤ gs1 0 := Nat.le_trans HB.size ((hX 0 _ rfl).2.2.1 (by simp))
    have b2 : BoxV W2 w1 (gs1 1) (.agg #[.bool false, .slice none 0 0]) := (hX 1 _ rfl).2.2.2
    have f2 := (hX 1 _ rfl).1
    have u2 : w.heap.size ≤ gs1 1 := Nat.le_trans HB.size ((hX 1 _ rfl).2.2.1 (by simp))
    replace Ar := Ar.rl hr
    replace Sr := Sr.rl hr
    replace Dr := Dr.rl hr
    replace HB := HB.trans (hBt.below HB.size (UpOld.all (bx := [⟨R3, some 0, 0, 1, .agg #[.bool nr, .slice ar mr cr, .slice br kr dr], none, []⟩, ⟨W2, some 1, 0, 2, .agg #[.bool false, .slice none 0 0], none, []⟩]) ⟨someNe, someNe, trivial⟩))
    clear hBt hr hR hP hX hU
    refine wp_seq ?_
    refine region4 [some 6, some 7, some 3, none] [Eqs (.agg #[.bool nr, .slice ar mr cr, .slice br kr dr]), OutQ ((nm (tp pr qr) (tq qr))) ((dn (tp pr qr) (tq qr))) (6 * (Br) + 10), (fun _ _ => True), (fun _ _ => True)] [⟨Q4, some 2, 0, 3, .agg #[.bool false, .slice none 0 0, .bool false, .slice none 0 0], some (3, 7, 1), []⟩] [] (by kernel_rfl) hn rfl (by kernel_rfl) (by kernel_rfl) (by kernel_rfl) (by kernel_rfl) (by kernel_rfl) (by kernel_rfl) ⟨Eqs.mono4 _, OutQ.mono4 _ _ _, True.mono4, True.mono4, trivial⟩ (ok_cons Q4ok ok_nil) (IsOld.all (bx := [⟨Q4, some 2, 0, 3, .agg #[.bool false, .slice none 0 0, .bool false, .slice none 0 0], some (3, 7, 1), []⟩]) ⟨someNe, trivial⟩) (DisOld.all (bx := [⟨Q4, some 2, 0, 3, .agg #[.bool false, .slice none 0 0, .bool false, .slice none 0 0], some (3, 7, 1), []⟩]) ⟨someNe, trivial⟩) ?_ ?_
    · exact ⟨.norm 6 rfl rfl rfl (fun a_ w_ hn_ hBt hr hR hD hO hS => op_loadv R3ok ((hR 1 rfl).trans f1) (b1.keep hBt ⟨someNe, trivial⟩)),
        .norm 7 rfl rfl rfl (fun a_ w_ hn_ hBt hr hR hD hO hS => op_qread (Br := Br) (isr_eq (show a_.eval (.tmp 6) = .agg #[.bool nr, .slice ar mr cr, .slice br kr dr] from hD 0 rfl) (Ar.rl hr) (Sr.rl hr) Vr Lr Mr) (by omega)),
        .alloc 0 _ rfl rfl (.inl ⟨rfl, rfl⟩) rfl rfl rfl rfl rfl,
        .store 0 _ _ _ rfl rfl rfl rfl rfl rfl rfl (fun ia h => by cases h; rfl) rfl rfl rfl OutQ.cs,
        trivial⟩
    · intro a2 w2 gs2 hn2 hd2 hBt hr hR hP hX hU
      replace hn := hn2; replace hd := hd2.trans hd
      have ne2_3 : (gs1 1) ≠ gs2 0 := by have h1 := b2.lt; have h2 := (hX 0 _ rfl).2.2.1 (by simp); omega
      replace b2 := b2.keep hBt ⟨someNe, trivial⟩
      obtain ⟨n_3, a_3, c_3, r_3, o_3, b_3, d_3, s_3, e7, G3, K3, l3, k3⟩ : OutQ ((nm (tp pr qr) (tq qr))) ((dn (tp pr qr) (tq qr))) (6 * (Br) + 10) (a2.eval (.tmp 7)) w2 := hP 1 (by decide)
      have b3 : BoxV Q4 w2 (gs2 0) (.agg #[.bool n_3, .slice a_3 r_3.length c_3, .bool o_3, .slice b_3 s_3.length d_3]) := boxv_of (hX 0 _ rfl).2.2.2 e7
      have f3 := (hX 0 _ rfl).1
      have u3 : w.heap.size ≤ gs2 0 := Nat.le_trans HB.size ((hX 0 _ rfl).2.2.1 (by simp))
      replace f2 := (hR 2 rfl).trans f2
      replace Ar := Ar.rl hr
      replace Sr := Sr.rl hr
      replace Dr := Dr.rl hr
      replace HB := HB.trans (hBt.below HB.size (UpOld.all (bx := [⟨Q4, some 2, 0, 3, .agg #[.bool false, .slice none 0 0, .bool false, .slice none 0 0], some (3, 7, 1), []⟩]) ⟨someNe, trivial⟩))
      clear hBt hr hR hP hX hU
      refine wp_seq ?_
      refine region4 [some 9, some 10, some 11, some 12, some 13, some 8, some 14, some 15, some 4, some 5, none, none] [Eqs (.pointer (some ⟨gs2 0, 0, none⟩)), Eqs (.agg #[.bool n_3, .slice a_3 r_3.length c_3]), Eqs (.pointer (some ⟨gs2 0, 2, none⟩)), Eqs (.agg #[.bool o_3, .slice b_3 s_3.length d_3]), Tup2 (OutN (((nm (tp pr qr) (tq qr)) / (dn (tp pr qr) (tq qr)))) ((6 * (Br) + 10) + 6)) (OutN (((nm (tp pr qr) (tq qr)) % (dn (tp pr qr) (tq qr)))) (2 * (6 * (Br) + 10) + 1)), Tup2 (OutN (((nm (tp pr qr) (tq qr)) / (dn (tp pr qr) (tq qr)))) ((6 * (Br) + 10) + 6)) (OutN (((nm (tp pr qr) (tq qr)) % (dn (tp pr qr) (tq qr)))) (2 * (6 * (Br) + 10) + 1)), OutN (((nm (tp pr qr) (tq qr)) / (dn (tp pr qr) (tq qr)))) ((6 * (Br) + 10) + 6), OutN (((nm (tp pr qr) (tq qr)) % (dn (tp pr qr) (tq qr)))) (2 * (6 * (Br) + 10) + 1), (fun _ _ => True), (fun _ _ => True), (fun _ _ => True), (fun _ _ => True)] [⟨N2, some 8, 0, 4, .agg #[.bool false, .slice none 0 0], some (10, 14, 6), []⟩, ⟨N2, some 9, 0, 5, .agg #[.bool false, .slice none 0 0], some (11, 15, 7), []⟩] [] (by kernel_rfl) hn rfl (by kernel_rfl) (by kernel_rfl) (by kernel_rfl) (by kernel_rfl) (by kernel_rfl) (by kernel_rfl) ⟨Eqs.mono4 _, Eqs.mono4 _, Eqs.mono4 _, Eqs.mono4 _, Tup2.mono4 (OutN.mono4 _ _) (OutN.mono4 _ _), Tup2.mono4 (OutN.mono4 _ _) (OutN.mono4 _ _), OutN.mono4 _ _, OutN.mono4 _ _, True.mono4, True.mono4, True.mono4, True.mono4, trivial⟩ (ok_cons N2ok (ok_cons N2ok ok_nil)) (IsOld.all (bx := [⟨N2, some 8, 0, 4, .agg #[.bool false, .slice none 0 0], some (10, 14, 6), []⟩, ⟨N2, some 9, 0, 5, .agg #[.bool false, .slice none 0 0], some (11, 15, 7), []⟩]) ⟨someNe, someNe, trivial⟩) (DisOld.all (bx := [⟨N2, some 8, 0, 4, .agg #[.bool false, .slice none 0 0], some (10, 14, 6), []⟩, ⟨N2, some 9, 0, 5, .agg #[.bool false, .slice none 0 0], some (11, 15, 7), []⟩]) ⟨someNe, someNe, trivial⟩) ?_ ?_
      · exact ⟨.norm 9 rfl rfl rfl (fun a_ w_ hn_ hBt hr hR hD hO hS => op_faQ fa_q0 ((hR 3 rfl).trans f3)),
          .norm 10 rfl rfl rfl (fun a_ w_ hn_ hBt hr hR hD hO hS => op_ldq0 (show a_.eval (.tmp 9) = .pointer (some ⟨gs2 0, 0, none⟩) from hD 0 rfl) (b3.keep hBt ⟨someNe, someNe, trivial⟩)),
          .norm 11 rfl rfl rfl (fun a_ w_ hn_ hBt hr hR hD hO hS => op_faQ fa_q1 ((hR 3 rfl).trans f3)),
          .norm 12 rfl rfl rfl (fun a_ w_ hn_ hBt hr hR hD hO hS => op_ldq1 (show a_.eval (.tmp 11) = .pointer (some ⟨gs2 0, 2, none⟩) from hD 2 rfl) (b3.keep hBt ⟨someNe, someNe, trivial⟩)),
          .norm 13 rfl rfl rfl (fun a_ w_ hn_ hBt hr hR hD hO hS => op_ndm (outn_eq (show a_.eval (.tmp 10) = .agg #[.bool n_3, .slice a_3 r_3.length c_3] from hD 1 rfl) (G3.rl hr) l3) (outn_eq (show a_.eval (.tmp 12) = .agg #[.bool o_3, .slice b_3 s_3.length d_3] from hD 3 rfl) (K3.rl hr) k3) (by omega) (by omega) (dn_pos _ (tq_ne _))),
          .norm 8 rfl rfl rfl (fun a_ w_ hn_ hBt hr hR hD hO hS => op_mvp (p := Tup2 (OutN (((nm (tp pr qr) (tq qr)) / (dn (tp pr qr) (tq qr)))) ((6 * (Br) + 10) + 6)) (OutN (((nm (tp pr qr) (tq qr)) % (dn (tp pr qr) (tq qr)))) (2 * (6 * (Br) + 10) + 1))) (show Tup2 (OutN (((nm (tp pr qr) (tq qr)) / (dn (tp pr qr) (tq qr)))) ((6 * (Br) + 10) + 6)) (OutN (((nm (tp pr qr) (tq qr)) % (dn (tp pr qr) (tq qr)))) (2 * (6 * (Br) + 10) + 1)) (a_.eval (.tmp 13)) w_ from hD 4 rfl)),
          .norm 14 rfl rfl rfl (fun a_ w_ hn_ hBt hr hR hD hO hS => op_ex20 (show Tup2 (OutN (((nm (tp pr qr) (tq qr)) / (dn (tp pr qr) (tq qr)))) ((6 * (Br) + 10) + 6)) (OutN (((nm (tp pr qr) (tq qr)) % (dn (tp pr qr) (tq qr)))) (2 * (6 * (Br) + 10) + 1)) (a_.eval (.tmp 8)) w_ from hD 5 rfl)),
          .norm 15 rfl rfl rfl (fun a_ w_ hn_ hBt hr hR hD hO hS => op_ex21 (show Tup2 (OutN (((nm (tp pr qr) (tq qr)) / (dn (tp pr qr) (tq qr)))) ((6 * (Br) + 10) + 6)) (OutN (((nm (tp pr qr) (tq qr)) % (dn (tp pr qr) (tq qr)))) (2 * (6 * (Br) + 10) + 1)) (a_.eval (.tmp 8)) w_ from hD 5 rfl)),
          .alloc 0 _ rfl rfl (.inl ⟨rfl, rfl⟩) rfl rfl rfl rfl rfl,
          .alloc 1 _ rfl rfl (.inl ⟨rfl, rfl⟩) rfl rfl rfl rfl rfl,
          .store 0 _ _ _ rfl rfl rfl rfl rfl rfl rfl (fun ia h => by cases h; rfl) rfl rfl rfl OutN.cs,
          .store 1 _ _ _ rfl rfl rfl rfl rfl rfl rfl (fun ia h => by cases h; rfl) rfl rfl rfl OutN.cs,
          trivial⟩
      · intro a4 w4 gs4 hn4 hd4 hBt hr hR hP hX hU
        replace hn := hn4; replace hd := hd4.trans hd
        have ne2_4 : (gs1 1) ≠ gs4 0 := by have h1 := b2.lt; have h2 := (hX 0 _ rfl).2.2.1 (by simp); omega
        replace b2 := b2.keep hBt ⟨someNe, someNe, trivial⟩
        obtain ⟨n_5, a_5, c_5, r_5, e14, G5, l5⟩ : OutN (((nm (tp pr qr) (tq qr)) / (dn (tp pr qr) (tq qr)))) ((6 * (Br) + 10) + 6) (a4.eval (.tmp 14)) w4 := hP 6 (by decide)
        have b4 : BoxV N2 w4 (gs4 0) (.agg #[.bool n_5, .slice a_5 r_5.length c_5]) := boxv_of (hX 0 _ rfl).2.2.2 e14
        have f4 := (hX 0 _ rfl).1
        have u4 : w.heap.size ≤ gs4 0 := Nat.le_trans HB.size ((hX 0 _ rfl).2.2.1 (by simp))
        replace f2 := (hR 2 rfl).trans f2
        replace Ar := Ar.rl hr
        replace Sr := Sr.rl hr
        replace Dr := Dr.rl hr
        replace G3 := G3.rl hr
        replace K3 := K3.rl hr
        replace HB := HB.trans (hBt.below HB.size (UpOld.all (bx := [⟨N2, some 8, 0, 4, .agg #[.bool false, .slice none 0 0], some (10, 14, 6), []⟩, ⟨N2, some 9, 0, 5, .agg #[.bool false, .slice none 0 0], some (11, 15, 7), []⟩]) ⟨someNe, someNe, trivial⟩))
        clear hBt hr hR hP hX hU
        refine wp_seq ?_
        refine region4 [some 16, some 17, none] [Eqs (.agg #[.bool n_5, .slice a_5 r_5.length c_5]), FrW (w.heap.size) (((nm (tp pr qr) (tq qr)) / (dn (tp pr qr) (tq qr)))) ((6 * (Br) + 10) + 6), (fun _ _ => True)] [⟨W2, none, (gs1 1), 2, .agg #[.bool false, .slice none 0 0], some (2, 17, 1), []⟩] [] (by kernel_rfl) hn rfl (by kernel_rfl) (by kernel_rfl) (by kernel_rfl) (by kernel_rfl) (by kernel_rfl) (by kernel_rfl) ⟨Eqs.mono4 _, FrW.mono4 _ _ _, True.mono4, trivial⟩ (ok_cons W2ok ok_nil) (IsOld.all (bx := [⟨W2, none, (gs1 1), 2, .agg #[.bool false, .slice none 0 0], some (2, 17, 1), []⟩]) ⟨fun _ => ⟨f2, b2⟩, trivial⟩) (DisOld.all (bx := [⟨W2, none, (gs1 1), 2, .agg #[.bool false, .slice none 0 0], some (2, 17, 1), []⟩]) ⟨fun _ => trivial, trivial⟩) ?_ ?_
        · exact ⟨.norm 16 rfl rfl rfl (fun a_ w_ hn_ hBt hr hR hD hO hS => op_loadv N2ok ((hR 4 rfl).trans f4) (b4.keep hBt ⟨fun _ => ne2_4, trivial⟩)),
            .norm 17 rfl rfl rfl (fun a_ w_ hn_ hBt hr hR hD hO hS => op_ntoldF (outn_eq (show a_.eval (.tmp 16) = .agg #[.bool n_5, .slice a_5 r_5.length c_5] from hD 0 rfl) (G5.rl hr) l5) (by omega) (Nat.le_trans HB.size hr.size)),
            .store 0 _ _ _ rfl rfl rfl rfl rfl rfl rfl (fun ia h => by cases h) rfl rfl rfl FrW.cs,
            trivial⟩
        · intro a6 w6 gs6 hn6 hd6 hBt hr hR hP hX hU
          replace hn := hn6; replace hd := hd6.trans hd
          obtain ⟨n_7, a_7, c_7, r_7, B7, T7, e17, F7, fb7, ft7, l7⟩ : FrW (w.heap.size) (((nm (tp pr qr) (tq qr)) / (dn (tp pr qr) (tq qr)))) ((6 * (Br) + 10) + 6) (a6.eval (.tmp 17)) w6 := hP 1 (by decide)
          have G7 := F7.wh; have A7 := G7.ag
          have HT7 : SzGe T7 w6 := ft7
          have b2 : BoxV W2 w6 ((gs1 1)) (.agg #[.bool n_7, .slice a_7 r_7.length c_7]) := boxv_old ((hX 0 _ rfl).2.1 rfl) (hX 0 _ rfl).2.2.2 e17
          replace f2 : a6.eval (.tmp 2) = _ := (hR 2 rfl).trans f2
          replace Ar := Ar.rl hr
          replace Sr := Sr.rl hr
          replace Dr := Dr.rl hr
          replace G3 := G3.rl hr
          replace K3 := K3.rl hr
          replace G5 := G5.rl hr
          replace HB := HB.trans (hBt.below HB.size (UpOld.all (bx := [⟨W2, none, (gs1 1), 2, .agg #[.bool false, .slice none 0 0], some (2, 17, 1), []⟩]) ⟨fun _ => u2, trivial⟩))
          clear hBt hr hR hP hX hU
          refine wp_ret ?_
          repeat (first | refine then_ret ?_ | refine scope_ret ?_ | refine block_ret ?_)
          exact bodyPost_ret (v := .agg #[.bool n_7, .slice a_7 r_7.length c_7]) (res_c rfl f2 (lv_W2 b2)) hd ⟨_, rfl, frw_eq F7 fb7 HT7.le l7 (by omega), HB⟩
theorem has_q3floorF : Has Try.prog 29 := by unfold Has; kernel_rfl
theorem op_q3floorF {dst : Option Tmp} {ty : TypeId} {pos : String} {after : Array Edge} {guard : Option (Nat × Bool)} {a : Act} {w : World} {ats : Array TypeId} {i : Nat} {Br : Nat} {pr qr : Int} (Hr : IsR pr qr Br (a.eval (.tmp i)) w) (hL : Br ≤ 10000) :
    Does Try.prog { dst, op := .call { callee := .value (.func 29), args := #[.tmp i], argTypes := ats }, type := ty, pos, after, guard } a.eval w fun v w' => Below w.heap.size w w' ∧ (FrW w.heap.size ((nm (tp pr qr) (tq qr)) / (dn (tp pr qr) (tq qr))) (6 * Br + 16)) v w' := by
  obtain ⟨nr, ar, mr, cr, rs, br, kr, dr, rt, er, Ar, Sr, Vr, Lr, Mr⟩ := Hr
  refine does_call has_q3floorF _ (by simp only [List.map_toArray, List.map_cons, List.map_nil, er]) ((q3floorF_z w Br _ _ _ _ _ _ Ar Lr _ _ _ _ _ Sr Vr Mr hL).mono ?_)
  rintro e w' ⟨v, rfl, h1, hb⟩
  exact ⟨_, rfl, hb, h1⟩
end Lm
end Go.Proofs.Ytpofkigboedliaa

namespace Go.Proofs.Ytpofkigboedliaa
namespace Lm
open Go Go.RowKit
open Dm (WFr)
structure Nr (K B T p q : Nat) : Prop where
  lo : K ≤ p
  le : p ≤ q
  emp : p = q → p = K
  ins : p < q → B ≤ p ∧ q ≤ T
theorem Nr.apart {K B T p q B' T' p' q' : Nat} (h : Nr K B T p q) (h' : Nr K B' T' p' q') (hd : T ≤ B' ∨ T' ≤ B) : q ≤ p' ∨ q' ≤ p := by
  obtain ⟨h1, h2, h3, h4⟩ := h
  obtain ⟨k1, k2, k3, k4⟩ := h'
  omega
theorem Nr.top {K B T p q M : Nat} (h : Nr K B T p q) (hK : K ≤ M) (hT : T ≤ M) : q ≤ M := by
  obtain ⟨h1, h2, h3, h4⟩ := h
  omega
def Bl (w : World) (p q : Nat) : Prop := ∀ j, p ≤ j → j < q → ∃ cur, w.heap[j]? = some (.cells cur 67 (0, 0))
theorem Fr.nr {B T K : Nat} {w : World} {ao : Option Addr} {cap : Nat} {rs : List Int} {x : Int} (h : Fr B T w ao cap rs x) (hK : K ≤ B) : ∃ p q, Fr p q w ao cap rs x ∧ Nr K B T p q ∧ Bl w p q := by
  obtain ⟨ho, hc, hv, hl⟩ := h
  obtain ⟨e, h1, h2, h4⟩ := ho.sl'
  by_cases h0 : 0 < cap
  · rcases h4 with h4 | ⟨g, off, cur, rfl, hB, hh, h5, h6⟩
    · omega
    · have hg := hl h0 g off rfl
      refine ⟨g, g + 1, ⟨?_, hc, hv, fun _ g' off' e' => ?_⟩, ⟨by omega, by omega, fun _ => by omega, fun _ => by omega⟩, fun j h7 h8 => ?_⟩
      · obtain ⟨ao', cap', hv', k1, k2, k3, k4⟩ := ho
        obtain ⟨rfl, _, rfl⟩ := (Value.slice.injEq .. ▸ hv')
        exact ⟨_, _, rfl, k1, k2, k3, .inr ⟨g, off, cur, rfl, Nat.le_refl _, hh, h5, h6⟩⟩
      · simp only [Option.some.injEq, Addr.mk.injEq, and_true] at e'
        omega
      · obtain rfl : j = g := by omega
        exact ⟨cur, hh⟩
  · exact ⟨K, K, ⟨ho.mono hK, hc, hv, fun h => by omega⟩, ⟨Nat.le_refl _, Nat.le_refl _, fun _ => rfl, fun h => by omega⟩, fun j h7 h8 => by omega⟩
theorem WFr.nr {B T K : Nat} {w : World} {ng : Bool} {ao : Option Addr} {cap : Nat} {rs : List Int} {z : Int} (h : WFr B T w ng ao cap rs z) (hK : K ≤ B) : ∃ p q, WFr p q w ng ao cap rs z ∧ Nr K B T p q ∧ Bl w p q := by
  obtain ⟨p, q, h1, h2, h3⟩ := h.fr.nr hK
  exact ⟨p, q, ⟨h1, h.sgn⟩, h2, h3⟩
theorem Bl.out {τ : BoxTy} {w : World} {g p q : Nat} {v : Value} (h : Bl w p q) (hτ : τ.T ≠ 67) (b : BoxV τ w g v) : ¬ (p ≤ g ∧ g < q) := by
  rintro ⟨h1, h2⟩
  obtain ⟨cur, hc⟩ := h g h1 h2
  obtain ⟨cs, _, b⟩ := b
  rw [b] at hc
  injection hc with hc
  injection hc with _ hc
  exact hτ hc
def InU (NN : Nat) : List (Nat × Nat) → Nat → Prop
  | [], j => NN ≤ j
  | i :: l, j => (i.1 ≤ j ∧ j < i.2) ∨ InU NN l j
theorem nin_nil {NN g : Nat} (h : g < NN) : ¬ InU NN [] g := fun e => by simp only [InU] at e; omega
theorem nin_cons {NN g p q : Nat} {l : List (Nat × Nat)} (h : ¬ (p ≤ g ∧ g < q)) (h' : ¬ InU NN l g) : ¬ InU NN ((p, q) :: l) g := fun e => e.elim h h'
def AptU (NN : Nat) (l : List (Nat × Nat)) (p q : Nat) : Prop := ∀ j, InU NN l j → j < p ∨ q ≤ j
theorem apt_nil {NN p q : Nat} (h : q ≤ NN) : AptU NN [] p q := fun j e => by simp only [InU] at e; omega
theorem apt_cons {NN p q p' q' : Nat} {l : List (Nat × Nat)} (h : q' ≤ p ∨ q ≤ p') (h' : AptU NN l p q) : AptU NN ((p', q') :: l) p q := fun j e => by
  rcases e with ⟨e1, e2⟩ | e
  · simp only at e1 e2
    omega
  · exact h' j e
def LowU (NN : Nat) (l : List (Nat × Nat)) (B : Nat) : Prop := ∀ j, InU NN l j → B ≤ j
theorem low_nil {NN B : Nat} (h : B ≤ NN) : LowU NN [] B := fun j e => by simp only [InU] at e; omega
theorem low_cons {NN B p q : Nat} {l : List (Nat × Nat)} (h : B ≤ p) (h' : LowU NN l B) : LowU NN ((p, q) :: l) B := fun j e => by
  rcases e with ⟨e1, e2⟩ | e
  · simp only at e1
    omega
  · exact h' j e
theorem growU1 {NN S p q : Nat} {l : List (Nat × Nat)} {bs bs' : List Nat} (hN : NN ≤ S) (h : ∀ j ∈ bs, InU NN l j) (hj : ∀ j, j ∈ bs' → j ∈ bs ∨ S ≤ j ∨ (p ≤ j ∧ j < q)) : ∀ j ∈ bs', InU NN ((p, q) :: l) j := by
  have far : ∀ l j, NN ≤ j → InU NN l j := by
    intro l j hj
    induction l with
    | nil => exact hj
    | cons i l ih => exact .inr ih
  intro j h1
  rcases hj j h1 with e | e | e
  · exact .inr (h j e)
  · exact .inr (far l j (by omega))
  · exact .inl e
theorem growU2 {NN S p q p' q' : Nat} {l : List (Nat × Nat)} {bs bs' ks : List Nat} (hN : NN ≤ S) (h : ∀ j ∈ bs, InU NN l j) (hj : ∀ j, j ∈ bs' ∨ j ∈ ks → j ∈ bs ∨ S ≤ j ∨ (p ≤ j ∧ j < q) ∨ (p' ≤ j ∧ j < q')) : ∀ j, j ∈ bs' ∨ j ∈ ks → InU NN ((p', q') :: (p, q) :: l) j := by
  have far : ∀ l j, NN ≤ j → InU NN l j := by
    intro l j hj
    induction l with
    | nil => exact hj
    | cons i l ih => exact .inr ih
  intro j h1
  rcases hj j h1 with e | e | e | e
  · exact .inr (.inr (h j e))
  · exact .inr (.inr (far l j (by omega)))
  · exact .inr (.inl e)
  · exact .inl e
theorem bsT_ne {τ : BoxTy} {w : World} {p Q n g : Nat} {bs : List Nat} {v : Value} (hτ : τ.T ≠ 33) (h : Bs w p Q bs n) (b : BoxV τ w g v) : g ≠ p := by
  obtain ⟨rv, lv, mv, _, hk⟩ := h
  obtain ⟨cs, _, b⟩ := b
  intro e
  subst e
  have := hk.here
  rw [b] at this
  injection this with this
  injection this with _ this
  exact hτ this
end Lm
end Go.Proofs.Ytpofkigboedliaa

namespace Go.Proofs.Ytpofkigboedliaa
namespace Lm
open Go Go.RowKit
open Dm (WFr)
theorem nd_pos {x y : Int} (hy : 0 < y) : ∃ g a b : Int, 0 < g ∧ x = g * a ∧ y = g * b ∧ nm x y = a ∧ dn x y = b ∧ ((Int.gcd x y : Nat) : Int) = g := by
  have hg : (0 : Int) < ((Int.gcd x y : Nat) : Int) := gcd_pos' hy
  obtain ⟨a, ha⟩ := Int.gcd_dvd_left x y
  obtain ⟨b, hb⟩ := Int.gcd_dvd_right x y
  refine ⟨_, a, b, hg, ha, hb, ?_, ?_, rfl⟩
  · rw [nm, Int.sign_eq_one_of_pos hy, Int.one_mul]
    conv => lhs; arg 1; rw [ha]
    exact Int.mul_ediv_cancel_left _ (by omega)
  · rw [dn, Int.sign_eq_one_of_pos hy, Int.one_mul]
    conv => lhs; arg 1; rw [hb]
    exact Int.mul_ediv_cancel_left _ (by omega)
theorem sgn_nm {x y : Int} (hy : 0 < y) : Int.sign (nm x y) = Int.sign x := by
  obtain ⟨g, a, b, hg, hx, _, h1, _⟩ := nd_pos (x := x) hy
  rw [h1, hx, Int.sign_mul, Int.sign_eq_one_of_pos hg, Int.one_mul]
theorem fl_nm {x y : Int} (hy : 0 < y) : x / y = nm x y / dn x y := by
  obtain ⟨g, a, b, hg, hx, hy', h1, h2, _⟩ := nd_pos (x := x) hy
  rw [h1, h2]
  conv => lhs; rw [hx, hy']
  exact Int.mul_ediv_mul_of_pos _ _ hg
theorem nm_minus {x y : Int} : nm (-x) y = -nm x y := by
  unfold nm
  rw [Int.neg_gcd, Int.neg_ediv_of_dvd (Int.gcd_dvd_left x y), Int.mul_neg]
theorem dn_minus {x y : Int} : dn (-x) y = dn x y := by
  unfold dn
  rw [Int.neg_gcd]
theorem dn_is1 {x y : Int} (hy : 0 < y) (h : x % y = 0) : dn x y = 1 ∧ nm x y = x / y := by
  obtain ⟨g, a, b, hg, hx, hy', h1, h2, h3⟩ := nd_pos (x := x) hy
  have hd : y ∣ x := Int.dvd_of_emod_eq_zero h
  have hyg : y ∣ g := by rw [← h3]; exact Int.dvd_coe_gcd hd (Int.dvd_refl y)
  have hb : 0 < b := by
    rw [hy'] at hy
    exact Int.pos_of_mul_pos_right hy (by omega)
  have hb1 : b = 1 := by
    have h5 := Int.le_of_dvd hg hyg
    rw [hy'] at h5
    have h6 : g * b ≤ g * 1 := by omega
    have := Int.le_of_mul_le_mul_left h6 hg
    omega
  refine ⟨by rw [h2, hb1], ?_⟩
  have h4 := fl_nm (x := x) hy
  rw [h4, h2, hb1, Int.ediv_one]
theorem dn_more {x y : Int} (hy : 0 < y) (h : x % y ≠ 0) : dn x y ≠ 1 := by
  obtain ⟨g, a, b, hg, hx, hy', h1, h2, h3⟩ := nd_pos (x := x) hy
  intro e
  apply h
  rw [h2] at e
  rw [e, Int.mul_one] at hy'
  rw [hx, hy']
  exact Int.mul_emod_right g a
theorem tq_gt {q : Int} (h : 0 ≤ q) : 0 < tq q := by
  unfold tq
  split <;> omega
theorem limbs_of (n : Nat) : ∃ zs, Limb zs ∧ val zs = (n : Int) := by
  induction n using Nat.strongRecOn with
  | _ n ih =>
    by_cases h : n = 0
    · exact ⟨[], limb_nil, by simp [val, h]⟩
    · obtain ⟨zs, hl, hv⟩ := ih (n / 4294967296) (Nat.div_lt_self (by omega) (by omega))
      refine ⟨((n % 4294967296 : Nat) : Int) :: zs, fun z hz => ?_, ?_⟩
      · rcases List.mem_cons.1 hz with rfl | hz
        · omega
        · exact hl z hz
      · simp only [val, hv]
        omega
theorem isLen_of (x : Int) : ∃ m, IsLen (x.natAbs : Int) m := by
  obtain ⟨zs, hl, hv⟩ := limbs_of x.natAbs
  exact ⟨_, _, canon_trim hl, by rw [val_take_tl, hv], rfl⟩
theorem bk_out {w : World} {p q b Q n : Nat} {bs : List Nat} (h : Bl w p q) (k : Bs w b Q bs n) : b < p ∨ q ≤ b := by
  apply Classical.byContradiction
  intro hn
  obtain ⟨rv, lv, mv, _, hk⟩ := k
  obtain ⟨cur, hc⟩ := h b (by omega) (by omega)
  have := hk.here
  rw [hc] at this
  injection this with this
  injection this with _ this
  exact absurd this (by decide)
section
variable {dst : Option Tmp} {ty : TypeId} {pos : String} {after : Array Edge} {guard : Option (Nat × Bool)} {a : Act} {w : World} {ats : Array TypeId} {i j k : Nat} {z : Int} {L K : Nat}
theorem frw1 {P : Program} {o : Oper} (hK : K ≤ w.heap.size) (hd : Does P o a.eval w fun v w' => Below w.heap.size w w' ∧ FrW w.heap.size z L v w') : Does P o a.eval w fun v w' => Below w.heap.size w w' ∧ FrW K z L v w' :=
  hd.mono fun _ _ ⟨hb, ng, ao, cap, rs, B, T, e', h, h1, h2⟩ => ⟨hb, ng, ao, cap, rs, B, T, e', h, Nat.le_trans hK h1, h2⟩
theorem op_neqbs {b : Bool} (h1 : a.eval (.tmp i) = .bool b) (h2 : a.eval (.tmp j) = .bool b) :
    Does Try.prog { dst, op := .binOp .neq 4 (.tmp i) (.tmp j) 4, type := ty, pos, after, guard } a.eval w fun v' w' => Below w.heap.size w w' ∧ Eqs (.bool false) v' w' := by
  have := op_neqb (dst := dst) (ty := ty) (pos := pos) (after := after) (guard := guard) (w := w) h1 h2
  rwa [show (b != b) = false by cases b <;> rfl] at this
def wZ (x y : Int) : Int := if x % y = 0 then x / y else 0
def wB (x y : Int) : Bool := decide (x % y = 0)
theorem op_rwholeU {Br : Nat} {pr qr : Int} (Hr : IsR pr qr Br (a.eval (.tmp i)) w) (hL : Br ≤ 100000) :
    Does Try.prog { dst, op := .call { callee := .value (.func 20), args := #[.tmp i], argTypes := ats }, type := ty, pos, after, guard } a.eval w fun v w' => Below w.heap.size w w' ∧ (Tup2 (FrW w.heap.size (wZ (tp pr qr) (tq qr)) (Br + 6)) (Eqs (.bool (wB (tp pr qr) (tq qr))))) v w' := by
  by_cases h0 : tp pr qr % tq qr = 0
  · have := op_rwholeF (dst := dst) (ty := ty) (pos := pos) (after := after) (guard := guard) (ats := ats) Hr hL h0
    simpa [wZ, wB, h0] using this
  · have := op_rwholeF0 (dst := dst) (ty := ty) (pos := pos) (after := after) (guard := guard) (ats := ats) Hr hL h0
    simpa [wZ, wB, h0] using this
theorem op_q3wholeU {Br : Nat} {pr qr : Int} (Hr : IsR pr qr Br (a.eval (.tmp i)) w) (hL : Br ≤ 10000) (hq0 : 0 < tq qr) :
    Does Try.prog { dst, op := .call { callee := .value (.func 23), args := #[.tmp i], argTypes := ats }, type := ty, pos, after, guard } a.eval w fun v w' => Below w.heap.size w w' ∧ (Tup2 (FrW w.heap.size (wZ (tp pr qr) (tq qr)) (6 * Br + 10)) (Eqs (.bool (wB (tp pr qr) (tq qr))))) v w' := by
  by_cases h0 : tp pr qr % tq qr = 0
  · have := op_q3wholeF (dst := dst) (ty := ty) (pos := pos) (after := after) (guard := guard) (ats := ats) Hr hL (dn_is1 hq0 h0).1
    rw [(dn_is1 hq0 h0).2] at this
    simpa [wZ, wB, h0] using this
  · have := op_q3wholeF0 (dst := dst) (ty := ty) (pos := pos) (after := after) (guard := guard) (ats := ats) Hr hL (dn_more hq0 h0)
    simpa [wZ, wB, h0] using this
theorem has_lent : Has Try.prog 16 := by unfold Has; kernel_rfl
theorem op_lent {La Lb : Nat} {nr : Bool} {ar br : Option Addr} {mr cr kr dr : Nat} {rs rt : List Int} {pr qr : Int} (hv : a.eval (.tmp i) = .agg #[.bool nr, .slice ar mr cr, .slice br kr dr]) (ha : a.eval (.tmp j) = .pointer (some ⟨La, 0, none⟩)) (hb : a.eval (.tmp k) = .pointer (some ⟨Lb, 0, none⟩)) (LNa : LendN w La) (LNb : LendN w Lb) (hab : La ≠ Lb) (Ar : Ag w nr ar mr cr rs pr) (Lr : rs.length ≤ 1500) (Sr : Sl w (.slice br kr dr) rt) (Vr : val rt = qr) (Mr : rt.length ≤ 1500) :
    Does Try.prog { dst, op := .call { callee := .value (.func 16), args := #[.tmp i, .tmp j, .tmp k], argTypes := ats }, type := ty, pos, after, guard } a.eval w fun v w' => ∃ ga gb, v = .agg #[.bool nr, .slice (some ⟨ga, 5, none⟩) rs.length (rs.length + 5), .slice (some ⟨gb, 5, none⟩) rt.length (rt.length + 5)] ∧ LendS w' La ga rs ∧ LendS w' Lb gb rt ∧ w.heap.size ≤ ga ∧ w.heap.size ≤ gb ∧ ga ≠ gb ∧ Touch2 w w' La Lb := by
  refine does_call has_lent _ (by simp only [List.map_toArray, List.map_cons, List.map_nil, hv, ha, hb]) ((lent_z w La Lb LNa LNb hab nr ar mr cr rs pr Ar Lr br kr dr rt qr Sr Vr Mr).mono ?_)
  rintro e w' ⟨ga, gb, rfl, h⟩
  exact ⟨_, rfl, ga, gb, rfl, h⟩
end
end Lm
end Go.Proofs.Ytpofkigboedliaa

