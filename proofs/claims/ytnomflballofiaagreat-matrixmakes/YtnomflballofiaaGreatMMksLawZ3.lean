/-
  Fractions as rational numbers: no program is named here, but what the calls of package ratio come to. Fractions: their order. Lowest terms: single operations, and what they come to as numbers. The program's fractions, each answer in memory of its own. What makes 0 with all rows of a basis: the rows that across answers, and what they span. No program is named here. A region that draws, in which one operation writes what others of the region have made: what they say is lost with it, but what is kept. Its last operations wait for all ahead of them.
-/
import Derived.Test.YtnomflballofiaaGreatMMksLawZ2
namespace Go.Proofs.YtnomflballofiaaGreat
namespace Lm
open Go Go.RowKit
theorem nm_rat (p : Int) {q : Int} (_h : q ≠ 0) : nm p q = (Rat.divInt p q).num := by
  rw [Rat.num_divInt, nm, Int.gcd_comm]
  rw [Int.mul_ediv_assoc _ (Int.gcd_dvd_right ..)]
theorem dn_rat (p : Int) {q : Int} (h : q ≠ 0) : dn p q = ((Rat.divInt p q).den : Int) := by
  rw [Rat.den_divInt, if_neg h, dn, Int.gcd_comm, Int.natCast_ediv]
  rcases Int.lt_or_gt_of_ne h with h1 | h1
  · rw [Int.sign_eq_neg_one_of_neg h1, show ((q.natAbs : Nat) : Int) = -q from by omega, Int.neg_ediv_of_dvd (Int.gcd_dvd_left ..)]
    omega
  · rw [Int.sign_eq_one_of_pos h1, show ((q.natAbs : Nat) : Int) = q from by omega]
    omega
theorem tpq_rat (p q : Int) : Rat.divInt (tp p q) (tq q) = Rat.divInt p q := by
  unfold tp tq
  split
  · next h => rw [h, Rat.divInt_zero, Rat.zero_divInt]
  · rfl
def IsQ (r : Rat) (L : Nat) : Says := fun v w => ∃ p q, IsR p q L v w ∧ Rat.divInt p q = r
def OutQr (r : Rat) (L : Nat) : Says := OutR r.num (r.den : Int) L
theorem OutQr.is {r : Rat} {L : Nat} {v : Value} {w : World} (h : OutQr r L v w) : IsQ r L v w := ⟨_, _, OutR.is h, Rat.num_divInt_den r⟩
def Fit (r : Rat) (L : Nat) : Prop := (r.num.natAbs : Int) < pw L ∧ (r.den : Int) < pw L
theorem OutQr.fit {r : Rat} {L L' : Nat} {v : Value} {w : World} (h : OutQr r L v w) (hf : Fit r L') : OutQr r L' v w := by
  obtain ⟨ng, ao, cap, rs, bo, dap, ss, e, h1, h2, l1, l2⟩ := h
  exact ⟨ng, ao, cap, rs, bo, dap, ss, e, h1, h2, canon_len h1.1.2.1 (by rw [h1.1.2.2]; exact hf.1), canon_len h2.2.1 (by rw [h2.2.2]; exact hf.2)⟩
theorem IsQ.open {r : Rat} {L : Nat} {v : Value} {w : World} (h : IsQ r L v w) : ∃ ng ao n cap xs bo m dap ys p q, v = .agg #[.bool ng, .slice ao n cap, .slice bo m dap] ∧ Ag w ng ao n cap xs p ∧ Sl w (.slice bo m dap) ys ∧ val ys = q ∧ xs.length ≤ L ∧ ys.length ≤ L ∧ Rat.divInt p q = r := by
  obtain ⟨p, q, ⟨ng, ao, n, cap, xs, bo, m, dap, ys, h1, h2, h3, h4, h5, h6⟩, h7⟩ := h
  exact ⟨ng, ao, n, cap, xs, bo, m, dap, ys, p, q, h1, h2, h3, h4, h5, h6, h7⟩
theorem radd_q (w : World) (x y : Value) (r s : Rat) (L M N : Nat) (hx : IsQ r L x w) (hy : IsQ s M y w) (hL : 3 * (L + M + 4) + 1 ≤ 100000) (hf : Fit (r + s) N) :
    Calls Tryz.prog 20 #[x, y] w fun e w' => ∃ v, e = .returned v ∧ OutQr (r + s) N v w' ∧ Below w.heap.size w w' := by
  obtain ⟨ng, ao, n, cap, xs, bo, m, dap, ys, p, q, rfl, h2, h3, h4, h5, h6, h7⟩ := hx.open
  obtain ⟨ng', ao', n', cap', xs', bo', m', dap', ys', p', q', rfl, g2, g3, g4, g5, g6, g7⟩ := hy.open
  refine (radd_z w L ng ao n cap xs p h2 h5 bo m dap ys q h3 h4 h6 M ng' ao' n' cap' xs' p' g2 g5 bo' m' dap' ys' q' g3 g4 g6 hL).mono ?_
  rintro e w' ⟨v, rfl, ho, hb⟩
  refine ⟨v, rfl, ?_, hb⟩
  have hne : tq q * tq q' ≠ 0 := Int.mul_ne_zero (tq_ne q) (tq_ne q')
  have hs : Rat.divInt (tp p q * tq q' + tp p' q' * tq q) (tq q * tq q') = r + s := by
    rw [← Rat.divInt_add_divInt _ _ (tq_ne q) (tq_ne q'), tpq_rat, tpq_rat, h7, g7]
  rw [nm_rat _ hne, dn_rat _ hne, hs] at ho
  exact OutQr.fit ho hf
theorem rfrom_q (w : World) (x : Value) (z : Int) (L : Nat) (hx : IsW z L x w) (hL : L ≤ 100000) :
    Calls Tryz.prog 19 #[x] w fun e w' => ∃ v, e = .returned v ∧ OutQr (z : Rat) (L + 2) v w' ∧ Below w.heap.size w w' := by
  obtain ⟨ng, ao, n, cap, xs, rfl, h2, h5⟩ := hx
  refine (from_z w L ng ao n cap xs z h2 h5 hL).mono ?_
  rintro e w' ⟨v, rfl, ho, hb⟩
  exact ⟨v, rfl, ho, hb⟩
theorem rof_q (w : World) (x y : Value) (z u : Int) (L M : Nat) (hx : IsW z L x w) (hy : IsW u M y w) (hL : L + M ≤ 100000) :
    Calls Tryz.prog 44 #[x, y] w fun e w' => Below w.heap.size w w' ∧ ((u ≠ 0 ∧ ∃ v, e = .returned (.tuple #[v, .int .i64 0]) ∧ OutQr (Rat.divInt z u) (L + M) v w') ∨ (u = 0 ∧ e = .returned (.tuple #[.agg #[.bool false, .slice none 0 0, .slice none 0 0], .int .i64 20]))) := by
  obtain ⟨ng, ao, n, cap, xs, rfl, h2, h5⟩ := hx
  obtain ⟨ng', ao', n', cap', xs', rfl, g2, g5⟩ := hy
  by_cases hu : u = 0
  · refine (rof0_z w L ng ao n cap xs z h2 h5 M ng' ao' n' cap' xs' u g2 g5 hL hu).mono ?_
    rintro e w' ⟨v, rfl, ⟨a, b, rfl, h1, h2⟩, hb⟩
    exact ⟨hb, .inr ⟨hu, by rw [h1, h2]⟩⟩
  · refine (rof_z w L ng ao n cap xs z h2 h5 M ng' ao' n' cap' xs' u g2 g5 hL hu).mono ?_
    rintro e w' ⟨v, rfl, ⟨a, b, rfl, h1, h2⟩, hb⟩
    rw [nm_rat _ hu, dn_rat _ hu] at h1
    exact ⟨hb, .inl ⟨hu, a, by rw [h2], h1⟩⟩
end Lm
end Go.Proofs.YtnomflballofiaaGreat

namespace Go.Proofs.YtnomflballofiaaGreat
namespace Lm
open Go Go.RowKit
set_option maxRecDepth 20000 in
set_option maxHeartbeats 2000000 in
theorem rcmp_z (w : World) (Br : Nat) (nr : Bool) (ar : Option Addr) (mr cr : Nat) (rs : List Int) (pr : Int) (Ar : Ag w nr ar mr cr rs pr) (Lr : rs.length ≤ Br) (br : Option Addr) (kr dr : Nat) (rt : List Int) (qr : Int) (Sr : Sl w (.slice br kr dr) rt) (Vr : val rt = qr) (Mr : rt.length ≤ Br) (Bu : Nat) (nu : Bool) (au : Option Addr) (mu cu : Nat) (us : List Int) (pu : Int) (Au : Ag w nu au mu cu us pu) (Lu : us.length ≤ Bu) (bu : Option Addr) (ku du : Nat) (ut : List Int) (qu : Int) (Su : Sl w (.slice bu ku du) ut) (Vu : val ut = qu) (Mu : ut.length ≤ Bu) (hL : Br + Bu + 4 ≤ 100000) :
    Calls Tryz.prog 22 #[.agg #[.bool nr, .slice ar mr cr, .slice br kr dr], .agg #[.bool nu, .slice au mu cu, .slice bu ku du]] w fun e w' => ∃ v, e = .returned v ∧ (Eqs (.int .i64 (cmpI (tp pr qr * tq qu) (tp pu qu * tq qr)))) v w' ∧ Below w.heap.size w w' := by
  go_enter Tryz.func22, Tryz.ntmps22
  generalize hA : (Act.mk _ _) = aa
  have hn : aa.tmps.size = 26 := by rw [← hA]; rfl
  have hd : aa.defers = [] := by rw [← hA]
  have f0 : aa.eval (.tmp 0) = .agg #[.bool nr, .slice ar mr cr, .slice br kr dr] := by rw [← hA]; rfl
  have f1 : aa.eval (.tmp 1) = .agg #[.bool nu, .slice au mu cu, .slice bu ku du] := by rw [← hA]; rfl
  clear hA
  have HB : Below w.heap.size w w := Below.refl _ _
  have Dr : Ag w false br kr dr rt qr := ⟨Sr, Vr⟩
  have Du : Ag w false bu ku du ut qu := ⟨Su, Vu⟩
  refine wp_seq ?_
  refine region4 [some 2, some 3, some 4] [(fun _ _ => True), (fun _ _ => True), Eqs ((.int .i64 0))] [⟨R3, some 0, 0, 2, .agg #[.bool nr, .slice ar mr cr, .slice br kr dr], none, []⟩, ⟨R3, some 1, 0, 3, .agg #[.bool nu, .slice au mu cu, .slice bu ku du], none, []⟩] [] (by kernel_rfl) hn rfl (by kernel_rfl) (by kernel_rfl) (by kernel_rfl) (by kernel_rfl) (by kernel_rfl) (by kernel_rfl) ⟨True.mono4, True.mono4, Eqs.mono4 _, trivial⟩ (ok_cons R3ok (ok_cons R3ok ok_nil)) (IsOld.all (bx := [⟨R3, some 0, 0, 2, .agg #[.bool nr, .slice ar mr cr, .slice br kr dr], none, []⟩, ⟨R3, some 1, 0, 3, .agg #[.bool nu, .slice au mu cu, .slice bu ku du], none, []⟩]) ⟨someNe, someNe, trivial⟩) (DisOld.all (bx := [⟨R3, some 0, 0, 2, .agg #[.bool nr, .slice ar mr cr, .slice br kr dr], none, []⟩, ⟨R3, some 1, 0, 3, .agg #[.bool nu, .slice au mu cu, .slice bu ku du], none, []⟩]) ⟨someNe, someNe, trivial⟩) ?_ ?_
  · exact ⟨.alloc 0 _ rfl rfl (.inr ⟨_, rfl, r3_cs, fun a_ hR => (hR 0 rfl).trans f0⟩) rfl rfl rfl rfl rfl,
      .alloc 1 _ rfl rfl (.inr ⟨_, rfl, r3_cs, fun a_ hR => (hR 1 rfl).trans f1⟩) rfl rfl rfl rfl rfl,
      .norm 4 rfl rfl rfl (fun a_ w_ hn_ hBt hr hR hD hO hS => op_assign rfl),
      trivial⟩
  · intro a1 w1 gs1 hn1 hd1 hBt hr hR hP hX hU
    replace hn := hn1; replace hd := hd1.trans hd
    have b2 : BoxV R3 w1 (gs1 0) (.agg #[.bool nr, .slice ar mr cr, .slice br kr dr]) := (hX 0 _ rfl).2.2.2
    have f2 := (hX 0 _ rfl).1
    have u2 : w.heap.size ≤ gs1 0 := Nat.le_trans HB.size ((hX 0 _ rfl).2.2.1 (by simp))
    have b3 : BoxV R3 w1 (gs1 1) (.agg #[.bool nu, .slice au mu cu, .slice bu ku du]) := (hX 1 _ rfl).2.2.2
    have f3 := (hX 1 _ rfl).1
    have u3 : w.heap.size ≤ gs1 1 := Nat.le_trans HB.size ((hX 1 _ rfl).2.2.1 (by simp))
    have e4 : a1.eval (.tmp 4) = (.int .i64 0) := hP 2 (by decide)
    have f4 := e4
    replace Ar := Ar.rl hr
    replace Sr := Sr.rl hr
    replace Dr := Dr.rl hr
    replace Au := Au.rl hr
    replace Su := Su.rl hr
    replace Du := Du.rl hr
    replace HB := HB.trans (hBt.below HB.size (UpOld.all (bx := [⟨R3, some 0, 0, 2, .agg #[.bool nr, .slice ar mr cr, .slice br kr dr], none, []⟩, ⟨R3, some 1, 0, 3, .agg #[.bool nu, .slice au mu cu, .slice bu ku du], none, []⟩]) ⟨someNe, someNe, trivial⟩))
    clear hBt hr hR hP hX hU
    refine wp_seq ?_
    refine region4 [some 10, some 11, some 9, some 12, some 13, some 5, some 6, none, none] [Eqs (.agg #[.bool nr, .slice ar mr cr, .slice br kr dr]), Tup2 (IsW ((tp pr qr)) ((Br) + 2)) (IsW ((tq qr)) ((Br) + 2)), Tup2 (IsW ((tp pr qr)) ((Br) + 2)) (IsW ((tq qr)) ((Br) + 2)), IsW ((tp pr qr)) ((Br) + 2), IsW ((tq qr)) ((Br) + 2), (fun _ _ => True), (fun _ _ => True), (fun _ _ => True), (fun _ _ => True)] [⟨W2, some 5, 0, 5, .agg #[.bool false, .slice none 0 0], some (7, 12, 3), []⟩, ⟨W2, some 6, 0, 6, .agg #[.bool false, .slice none 0 0], some (8, 13, 4), []⟩] [] (by kernel_rfl) hn rfl (by kernel_rfl) (by kernel_rfl) (by kernel_rfl) (by kernel_rfl) (by kernel_rfl) (by kernel_rfl) ⟨Eqs.mono4 _, Tup2.mono4 (IsW.mono4 _ _) (IsW.mono4 _ _), Tup2.mono4 (IsW.mono4 _ _) (IsW.mono4 _ _), IsW.mono4 _ _, IsW.mono4 _ _, True.mono4, True.mono4, True.mono4, True.mono4, trivial⟩ (ok_cons W2ok (ok_cons W2ok ok_nil)) (IsOld.all (bx := [⟨W2, some 5, 0, 5, .agg #[.bool false, .slice none 0 0], some (7, 12, 3), []⟩, ⟨W2, some 6, 0, 6, .agg #[.bool false, .slice none 0 0], some (8, 13, 4), []⟩]) ⟨someNe, someNe, trivial⟩) (DisOld.all (bx := [⟨W2, some 5, 0, 5, .agg #[.bool false, .slice none 0 0], some (7, 12, 3), []⟩, ⟨W2, some 6, 0, 6, .agg #[.bool false, .slice none 0 0], some (8, 13, 4), []⟩]) ⟨someNe, someNe, trivial⟩) ?_ ?_
    · exact ⟨.norm 10 rfl rfl rfl (fun a_ w_ hn_ hBt hr hR hD hO hS => op_loadv R3ok ((hR 2 rfl).trans f2) (b2.keep hBt ⟨someNe, someNe, trivial⟩)),
        .norm 11 rfl rfl rfl (fun a_ w_ hn_ hBt hr hR hD hO hS => op_terms (isr_eq (show a_.eval (.tmp 10) = .agg #[.bool nr, .slice ar mr cr, .slice br kr dr] from hD 0 rfl) (Ar.rl hr) (Sr.rl hr) Vr Lr Mr) (by omega)),
        .norm 9 rfl rfl rfl (fun a_ w_ hn_ hBt hr hR hD hO hS => op_mvp (p := Tup2 (IsW ((tp pr qr)) ((Br) + 2)) (IsW ((tq qr)) ((Br) + 2))) (show Tup2 (IsW ((tp pr qr)) ((Br) + 2)) (IsW ((tq qr)) ((Br) + 2)) (a_.eval (.tmp 11)) w_ from hD 1 rfl)),
        .norm 12 rfl rfl rfl (fun a_ w_ hn_ hBt hr hR hD hO hS => op_ex20 (show Tup2 (IsW ((tp pr qr)) ((Br) + 2)) (IsW ((tq qr)) ((Br) + 2)) (a_.eval (.tmp 9)) w_ from hD 2 rfl)),
        .norm 13 rfl rfl rfl (fun a_ w_ hn_ hBt hr hR hD hO hS => op_ex21 (show Tup2 (IsW ((tp pr qr)) ((Br) + 2)) (IsW ((tq qr)) ((Br) + 2)) (a_.eval (.tmp 9)) w_ from hD 2 rfl)),
        .alloc 0 _ rfl rfl (.inl ⟨rfl, rfl⟩) rfl rfl rfl rfl rfl,
        .alloc 1 _ rfl rfl (.inl ⟨rfl, rfl⟩) rfl rfl rfl rfl rfl,
        .store 0 _ _ _ rfl rfl rfl rfl rfl rfl rfl (fun ia h => by cases h; rfl) rfl rfl rfl IsW.cs,
        .store 1 _ _ _ rfl rfl rfl rfl rfl rfl rfl (fun ia h => by cases h; rfl) rfl rfl rfl IsW.cs,
        trivial⟩
    · intro a2 w2 gs2 hn2 hd2 hBt hr hR hP hX hU
      replace hn := hn2; replace hd := hd2.trans hd
      replace b3 := b3.keep hBt ⟨someNe, someNe, trivial⟩
      obtain ⟨n_3, a_3, m_3, c_3, r_3, e12, A3, l3⟩ : IsW ((tp pr qr)) ((Br) + 2) (a2.eval (.tmp 12)) w2 := hP 3 (by decide)
      have b5 : BoxV W2 w2 (gs2 0) (.agg #[.bool n_3, .slice a_3 m_3 c_3]) := boxv_of (hX 0 _ rfl).2.2.2 e12
      have f5 := (hX 0 _ rfl).1
      have u5 : w.heap.size ≤ gs2 0 := Nat.le_trans HB.size ((hX 0 _ rfl).2.2.1 (by simp))
      obtain ⟨n_4, a_4, m_4, c_4, r_4, e13, A4, l4⟩ : IsW ((tq qr)) ((Br) + 2) (a2.eval (.tmp 13)) w2 := hP 4 (by decide)
      have b6 : BoxV W2 w2 (gs2 1) (.agg #[.bool n_4, .slice a_4 m_4 c_4]) := boxv_of (hX 1 _ rfl).2.2.2 e13
      have f6 := (hX 1 _ rfl).1
      have u6 : w.heap.size ≤ gs2 1 := Nat.le_trans HB.size ((hX 1 _ rfl).2.2.1 (by simp))
      replace f3 := (hR 3 rfl).trans f3
      replace f4 := (hR 4 rfl).trans f4
      replace Ar := Ar.rl hr
      replace Sr := Sr.rl hr
      replace Dr := Dr.rl hr
      replace Au := Au.rl hr
      replace Su := Su.rl hr
      replace Du := Du.rl hr
      replace HB := HB.trans (hBt.below HB.size (UpOld.all (bx := [⟨W2, some 5, 0, 5, .agg #[.bool false, .slice none 0 0], some (7, 12, 3), []⟩, ⟨W2, some 6, 0, 6, .agg #[.bool false, .slice none 0 0], some (8, 13, 4), []⟩]) ⟨someNe, someNe, trivial⟩))
      clear hBt hr hR hP hX hU
      refine wp_seq ?_
      refine region4 [some 15, some 16, some 14, some 17, some 18, some 7, some 8, none, none] [Eqs (.agg #[.bool nu, .slice au mu cu, .slice bu ku du]), Tup2 (IsW ((tp pu qu)) ((Bu) + 2)) (IsW ((tq qu)) ((Bu) + 2)), Tup2 (IsW ((tp pu qu)) ((Bu) + 2)) (IsW ((tq qu)) ((Bu) + 2)), IsW ((tp pu qu)) ((Bu) + 2), IsW ((tq qu)) ((Bu) + 2), (fun _ _ => True), (fun _ _ => True), (fun _ _ => True), (fun _ _ => True)] [⟨W2, some 5, 0, 7, .agg #[.bool false, .slice none 0 0], some (7, 17, 3), []⟩, ⟨W2, some 6, 0, 8, .agg #[.bool false, .slice none 0 0], some (8, 18, 4), []⟩] [] (by kernel_rfl) hn rfl (by kernel_rfl) (by kernel_rfl) (by kernel_rfl) (by kernel_rfl) (by kernel_rfl) (by kernel_rfl) ⟨Eqs.mono4 _, Tup2.mono4 (IsW.mono4 _ _) (IsW.mono4 _ _), Tup2.mono4 (IsW.mono4 _ _) (IsW.mono4 _ _), IsW.mono4 _ _, IsW.mono4 _ _, True.mono4, True.mono4, True.mono4, True.mono4, trivial⟩ (ok_cons W2ok (ok_cons W2ok ok_nil)) (IsOld.all (bx := [⟨W2, some 5, 0, 7, .agg #[.bool false, .slice none 0 0], some (7, 17, 3), []⟩, ⟨W2, some 6, 0, 8, .agg #[.bool false, .slice none 0 0], some (8, 18, 4), []⟩]) ⟨someNe, someNe, trivial⟩) (DisOld.all (bx := [⟨W2, some 5, 0, 7, .agg #[.bool false, .slice none 0 0], some (7, 17, 3), []⟩, ⟨W2, some 6, 0, 8, .agg #[.bool false, .slice none 0 0], some (8, 18, 4), []⟩]) ⟨someNe, someNe, trivial⟩) ?_ ?_
      · exact ⟨.norm 15 rfl rfl rfl (fun a_ w_ hn_ hBt hr hR hD hO hS => op_loadv R3ok ((hR 3 rfl).trans f3) (b3.keep hBt ⟨someNe, someNe, trivial⟩)),
          .norm 16 rfl rfl rfl (fun a_ w_ hn_ hBt hr hR hD hO hS => op_terms (isr_eq (show a_.eval (.tmp 15) = .agg #[.bool nu, .slice au mu cu, .slice bu ku du] from hD 0 rfl) (Au.rl hr) (Su.rl hr) Vu Lu Mu) (by omega)),
          .norm 14 rfl rfl rfl (fun a_ w_ hn_ hBt hr hR hD hO hS => op_mvp (p := Tup2 (IsW ((tp pu qu)) ((Bu) + 2)) (IsW ((tq qu)) ((Bu) + 2))) (show Tup2 (IsW ((tp pu qu)) ((Bu) + 2)) (IsW ((tq qu)) ((Bu) + 2)) (a_.eval (.tmp 16)) w_ from hD 1 rfl)),
          .norm 17 rfl rfl rfl (fun a_ w_ hn_ hBt hr hR hD hO hS => op_ex20 (show Tup2 (IsW ((tp pu qu)) ((Bu) + 2)) (IsW ((tq qu)) ((Bu) + 2)) (a_.eval (.tmp 14)) w_ from hD 2 rfl)),
          .norm 18 rfl rfl rfl (fun a_ w_ hn_ hBt hr hR hD hO hS => op_ex21 (show Tup2 (IsW ((tp pu qu)) ((Bu) + 2)) (IsW ((tq qu)) ((Bu) + 2)) (a_.eval (.tmp 14)) w_ from hD 2 rfl)),
          .alloc 0 _ rfl rfl (.inl ⟨rfl, rfl⟩) rfl rfl rfl rfl rfl,
          .alloc 1 _ rfl rfl (.inl ⟨rfl, rfl⟩) rfl rfl rfl rfl rfl,
          .store 0 _ _ _ rfl rfl rfl rfl rfl rfl rfl (fun ia h => by cases h; rfl) rfl rfl rfl IsW.cs,
          .store 1 _ _ _ rfl rfl rfl rfl rfl rfl rfl (fun ia h => by cases h; rfl) rfl rfl rfl IsW.cs,
          trivial⟩
      · intro a5 w5 gs5 hn5 hd5 hBt hr hR hP hX hU
        replace hn := hn5; replace hd := hd5.trans hd
        replace b5 := b5.keep hBt ⟨someNe, someNe, trivial⟩
        replace b6 := b6.keep hBt ⟨someNe, someNe, trivial⟩
        obtain ⟨n_6, a_6, m_6, c_6, r_6, e17, A6, l6⟩ : IsW ((tp pu qu)) ((Bu) + 2) (a5.eval (.tmp 17)) w5 := hP 3 (by decide)
        have b7 : BoxV W2 w5 (gs5 0) (.agg #[.bool n_6, .slice a_6 m_6 c_6]) := boxv_of (hX 0 _ rfl).2.2.2 e17
        have f7 := (hX 0 _ rfl).1
        have u7 : w.heap.size ≤ gs5 0 := Nat.le_trans HB.size ((hX 0 _ rfl).2.2.1 (by simp))
        obtain ⟨n_7, a_7, m_7, c_7, r_7, e18, A7, l7⟩ : IsW ((tq qu)) ((Bu) + 2) (a5.eval (.tmp 18)) w5 := hP 4 (by decide)
        have b8 : BoxV W2 w5 (gs5 1) (.agg #[.bool n_7, .slice a_7 m_7 c_7]) := boxv_of (hX 1 _ rfl).2.2.2 e18
        have f8 := (hX 1 _ rfl).1
        have u8 : w.heap.size ≤ gs5 1 := Nat.le_trans HB.size ((hX 1 _ rfl).2.2.1 (by simp))
        replace f4 := (hR 4 rfl).trans f4
        replace f5 := (hR 5 rfl).trans f5
        replace f6 := (hR 6 rfl).trans f6
        replace Ar := Ar.rl hr
        replace Sr := Sr.rl hr
        replace Dr := Dr.rl hr
        replace Au := Au.rl hr
        replace Su := Su.rl hr
        replace Du := Du.rl hr
        replace A3 := A3.rl hr
        replace A4 := A4.rl hr
        replace HB := HB.trans (hBt.below HB.size (UpOld.all (bx := [⟨W2, some 5, 0, 7, .agg #[.bool false, .slice none 0 0], some (7, 17, 3), []⟩, ⟨W2, some 6, 0, 8, .agg #[.bool false, .slice none 0 0], some (8, 18, 4), []⟩]) ⟨someNe, someNe, trivial⟩))
        clear hBt hr hR hP hX hU
        refine wp_seq ?_
        refine region4 [some 19, some 20, some 21, some 22, some 23, some 24, some 25, some 4] [Eqs (.agg #[.bool n_3, .slice a_3 m_3 c_3]), Eqs (.agg #[.bool n_7, .slice a_7 m_7 c_7]), OutW (((tp pr qr) * (tq qu))) (((Br) + 2) + ((Bu) + 2)), Eqs (.agg #[.bool n_6, .slice a_6 m_6 c_6]), Eqs (.agg #[.bool n_4, .slice a_4 m_4 c_4]), OutW (((tp pu qu) * (tq qr))) (((Bu) + 2) + ((Br) + 2)), Eqs (.int .i64 (cmpI ((tp pr qr) * (tq qu)) ((tp pu qu) * (tq qr)))), Eqs (.int .i64 (cmpI ((tp pr qr) * (tq qu)) ((tp pu qu) * (tq qr))))] [] [] (by kernel_rfl) hn rfl (by kernel_rfl) (by kernel_rfl) (by kernel_rfl) (by kernel_rfl) (by kernel_rfl) (by kernel_rfl) ⟨Eqs.mono4 _, Eqs.mono4 _, OutW.mono4 _ _, Eqs.mono4 _, Eqs.mono4 _, OutW.mono4 _ _, Eqs.mono4 _, Eqs.mono4 _, trivial⟩ ok_nil (IsOld.all (bx := []) trivial) (DisOld.all (bx := []) trivial) ?_ ?_
        · exact ⟨.norm 19 rfl rfl rfl (fun a_ w_ hn_ hBt hr hR hD hO hS => op_loadv W2ok ((hR 5 rfl).trans f5) (b5.keep hBt trivial)),
            .norm 20 rfl rfl rfl (fun a_ w_ hn_ hBt hr hR hD hO hS => op_loadv W2ok ((hR 8 rfl).trans f8) (b8.keep hBt trivial)),
            .norm 21 rfl rfl rfl (fun a_ w_ hn_ hBt hr hR hD hO hS => op_mul (isw_eq (show a_.eval (.tmp 19) = .agg #[.bool n_3, .slice a_3 m_3 c_3] from hD 0 rfl) (A3.rl hr) l3) (isw_eq (show a_.eval (.tmp 20) = .agg #[.bool n_7, .slice a_7 m_7 c_7] from hD 1 rfl) (A7.rl hr) l7) (by omega) (by omega)),
            .norm 22 rfl rfl rfl (fun a_ w_ hn_ hBt hr hR hD hO hS => op_loadv W2ok ((hR 7 rfl).trans f7) (b7.keep hBt trivial)),
            .norm 23 rfl rfl rfl (fun a_ w_ hn_ hBt hr hR hD hO hS => op_loadv W2ok ((hR 6 rfl).trans f6) (b6.keep hBt trivial)),
            .norm 24 rfl rfl rfl (fun a_ w_ hn_ hBt hr hR hD hO hS => op_mul (isw_eq (show a_.eval (.tmp 22) = .agg #[.bool n_6, .slice a_6 m_6 c_6] from hD 3 rfl) (A6.rl hr) l6) (isw_eq (show a_.eval (.tmp 23) = .agg #[.bool n_4, .slice a_4 m_4 c_4] from hD 4 rfl) (A4.rl hr) l4) (by omega) (by omega)),
            .norm 25 rfl rfl rfl (fun a_ w_ hn_ hBt hr hR hD hO hS => op_cmp (show OutW (((tp pr qr) * (tq qu))) (((Br) + 2) + ((Bu) + 2)) (a_.eval (.tmp 21)) w_ from hD 2 rfl).is (show OutW (((tp pu qu) * (tq qr))) (((Bu) + 2) + ((Br) + 2)) (a_.eval (.tmp 24)) w_ from hD 5 rfl).is (by omega) (by omega)),
            .norm 4 rfl rfl rfl (fun a_ w_ hn_ hBt hr hR hD hO hS => op_assign (show a_.eval (.tmp 25) = .int .i64 (cmpI ((tp pr qr) * (tq qu)) ((tp pu qu) * (tq qr))) from hD 6 rfl)),
            trivial⟩
        · intro a8 w8 gs8 hn8 hd8 hBt hr hR hP hX hU
          replace hn := hn8; replace hd := hd8.trans hd
          have e4 : a8.eval (.tmp 4) = .int .i64 (cmpI ((tp pr qr) * (tq qu)) ((tp pu qu) * (tq qr))) := hP 7 (by decide)
          have f4 := e4
          replace Ar := Ar.rl hr
          replace Sr := Sr.rl hr
          replace Dr := Dr.rl hr
          replace Au := Au.rl hr
          replace Su := Su.rl hr
          replace Du := Du.rl hr
          replace A3 := A3.rl hr
          replace A4 := A4.rl hr
          replace A6 := A6.rl hr
          replace A7 := A7.rl hr
          replace HB := HB.trans (hBt.below HB.size (UpOld.all (bx := []) trivial))
          clear hBt hr hR hP hX hU
          refine wp_ret ?_
          repeat (first | refine then_ret ?_ | refine scope_ret ?_ | refine block_ret ?_)
          exact bodyPost_ret (v := .int .i64 (cmpI ((tp pr qr) * (tq qu)) ((tp pu qu) * (tq qr)))) (res_t rfl f4) hd ⟨_, rfl, rfl, HB⟩
theorem has_rcmp : Has Tryz.prog 22 := by unfold Has; kernel_rfl
end Lm
end Go.Proofs.YtnomflballofiaaGreat

namespace Go.Proofs.YtnomflballofiaaGreat
namespace Lm
open Go Go.RowKit
section
variable {dst : Option Tmp} {ty : TypeId} {pos : String} {after : Array Edge} {guard : Option (Nat × Bool)} {a : Act} {w : World} {ats : Array TypeId} {i j k g : Nat} {u v x y z : Int} {L L1 L2 : Nat}
theorem op_ldrmag {ng : Bool} {ao bo : Option Addr} {n c m d : Nat} (hp : a.eval (.tmp k) = .pointer (some ⟨g, 1, none⟩)) (hb : BoxV R3 w g (.agg #[.bool ng, .slice ao n c, .slice bo m d])) :
    Does Tryz.prog { dst, op := .load 36 (.tmp k), type := ty, pos, after, guard } a.eval w fun v' w' => Below w.heap.size w w' ∧ Eqs (.slice ao n c) v' w' := by
  obtain ⟨b1, b2, b3, b4, b5, b6⟩ := r3_facts (r3_row hb)
  refine does_load (v := .slice ao n c) ?_ ⟨Below.refl _ _, rfl⟩
  rw [hp]
  go_simp
end
end Lm
end Go.Proofs.YtnomflballofiaaGreat

namespace Go.Proofs.YtnomflballofiaaGreat
namespace Lm
open Go Go.RowKit
section
variable {dst : Option Tmp} {ty : TypeId} {pos : String} {after : Array Edge} {guard : Option (Nat × Bool)} {a : Act} {w : World} {ats : Array TypeId} {i j : Nat} {x y : Int} {L1 L2 K : Nat}
theorem op_max {u v : Nat} (h1 : a.eval (.tmp i) = .int .i64 (u : Int)) (h2 : a.eval (.tmp j) = .int .i64 (v : Int)) {ts : Array TypeId} :
    Does Tryz.prog { dst, op := .call { callee := .builtin .max, args := #[.tmp i, .tmp j], argTypes := ts }, type := ty, pos, after, guard } a.eval w fun v' w' => Below w.heap.size w w' ∧ Eqs (.int .i64 ((max u v : Nat) : Int)) v' w' := by
  have e : (execOp a.eval { dst, op := .call { callee := .builtin .max, args := #[.tmp i, .tmp j], argTypes := ts }, type := ty, pos, after, guard }).run Tryz.prog w = .ok (.value (.int .i64 ((max u v : Nat) : Int))) w := by
    have h1' : a.tmps[i]?.getD undef = .int .i64 (u : Int) := by simpa [Act.eval] using h1
    have h2' : a.tmps[j]?.getD undef = .int .i64 (v : Int) := by simpa [Act.eval] using h2
    simp [go_sem, h1', h2']
    omega
  refine ⟨?_⟩
  unfold Turns
  rw [e]
  exact ⟨Below.refl _ _, rfl⟩
end
set_option maxRecDepth 20000 in
set_option maxHeartbeats 2000000 in
theorem rlimbs_z (w : World) (Br : Nat) (nr : Bool) (ar : Option Addr) (mr cr : Nat) (rs : List Int) (pr : Int) (Ar : Ag w nr ar mr cr rs pr) (Lr : rs.length ≤ Br) (br : Option Addr) (kr dr : Nat) (rt : List Int) (qr : Int) (Sr : Sl w (.slice br kr dr) rt) (Vr : val rt = qr) (Mr : rt.length ≤ Br) (hL : 2 * (Br + 2) ≤ 100000) (mP mQ : Nat) (hmP : IsLen (((nm (tp pr qr) (tq qr))).natAbs : Int) mP) (hmQ : IsLen (dn (tp pr qr) (tq qr)) mQ) :
    Calls Tryz.prog 46 #[.agg #[.bool nr, .slice ar mr cr, .slice br kr dr]] w fun e w' => ∃ v, e = .returned v ∧ (Eqs (.int .i64 ((max mP mQ : Nat) : Int))) v w' ∧ Below w.heap.size w w' := by
  go_enter Tryz.func46, Tryz.ntmps46
  generalize hA : (Act.mk _ _) = aa
  have hn : aa.tmps.size = 14 := by rw [← hA]; rfl
  have hd : aa.defers = [] := by rw [← hA]
  have f0 : aa.eval (.tmp 0) = .agg #[.bool nr, .slice ar mr cr, .slice br kr dr] := by rw [← hA]; rfl
  clear hA
  have HB : Below w.heap.size w w := Below.refl _ _
  have Dr : Ag w false br kr dr rt qr := ⟨Sr, Vr⟩
  refine wp_seq ?_
  refine region4 [some 1, some 2] [(fun _ _ => True), Eqs ((.int .i64 0))] [⟨R3, some 0, 0, 1, .agg #[.bool nr, .slice ar mr cr, .slice br kr dr], none, []⟩] [] (by kernel_rfl) hn rfl (by kernel_rfl) (by kernel_rfl) (by kernel_rfl) (by kernel_rfl) (by kernel_rfl) (by kernel_rfl) ⟨True.mono4, Eqs.mono4 _, trivial⟩ (ok_cons R3ok ok_nil) (IsOld.all (bx := [⟨R3, some 0, 0, 1, .agg #[.bool nr, .slice ar mr cr, .slice br kr dr], none, []⟩]) ⟨someNe, trivial⟩) (DisOld.all (bx := [⟨R3, some 0, 0, 1, .agg #[.bool nr, .slice ar mr cr, .slice br kr dr], none, []⟩]) ⟨someNe, trivial⟩) ?_ ?_
  · exact ⟨.alloc 0 _ rfl rfl (.inr ⟨_, rfl, r3_cs, fun a_ hR => (hR 0 rfl).trans f0⟩) rfl rfl rfl rfl rfl,
      .norm 2 rfl rfl rfl (fun a_ w_ hn_ hBt hr hR hD hO hS => op_assign rfl),
      trivial⟩
  · intro a1 w1 gs1 hn1 hd1 hBt hr hR hP hX hU
    replace hn := hn1; replace hd := hd1.trans hd
    have b1 : BoxV R3 w1 (gs1 0) (.agg #[.bool nr, .slice ar mr cr, .slice br kr dr]) := (hX 0 _ rfl).2.2.2
    have f1 := (hX 0 _ rfl).1
    have u1 : w.heap.size ≤ gs1 0 := Nat.le_trans HB.size ((hX 0 _ rfl).2.2.1 (by simp))
    have e2 : a1.eval (.tmp 2) = (.int .i64 0) := hP 1 (by decide)
    have f2 := e2
    replace Ar := Ar.rl hr
    replace Sr := Sr.rl hr
    replace Dr := Dr.rl hr
    replace HB := HB.trans (hBt.below HB.size (UpOld.all (bx := [⟨R3, some 0, 0, 1, .agg #[.bool nr, .slice ar mr cr, .slice br kr dr], none, []⟩]) ⟨someNe, trivial⟩))
    clear hBt hr hR hP hX hU
    refine wp_seq ?_
    refine region4 [some 4, some 5, some 3, none] [Eqs (.agg #[.bool nr, .slice ar mr cr, .slice br kr dr]), OutR ((nm (tp pr qr) (tq qr))) ((dn (tp pr qr) (tq qr))) (2 * ((Br) + 2)), (fun _ _ => True), (fun _ _ => True)] [⟨R3, some 2, 0, 3, .agg #[.bool false, .slice none 0 0, .slice none 0 0], some (3, 5, 1), []⟩] [] (by kernel_rfl) hn rfl (by kernel_rfl) (by kernel_rfl) (by kernel_rfl) (by kernel_rfl) (by kernel_rfl) (by kernel_rfl) ⟨Eqs.mono4 _, OutR.mono4 _ _ _, True.mono4, True.mono4, trivial⟩ (ok_cons R3ok ok_nil) (IsOld.all (bx := [⟨R3, some 2, 0, 3, .agg #[.bool false, .slice none 0 0, .slice none 0 0], some (3, 5, 1), []⟩]) ⟨someNe, trivial⟩) (DisOld.all (bx := [⟨R3, some 2, 0, 3, .agg #[.bool false, .slice none 0 0, .slice none 0 0], some (3, 5, 1), []⟩]) ⟨someNe, trivial⟩) ?_ ?_
    · exact ⟨.norm 4 rfl rfl rfl (fun a_ w_ hn_ hBt hr hR hD hO hS => op_loadv R3ok ((hR 1 rfl).trans f1) (b1.keep hBt ⟨someNe, trivial⟩)),
        .norm 5 rfl rfl rfl (fun a_ w_ hn_ hBt hr hR hD hO hS => op_rtrim (isr_eq (show a_.eval (.tmp 4) = .agg #[.bool nr, .slice ar mr cr, .slice br kr dr] from hD 0 rfl) (Ar.rl hr) (Sr.rl hr) Vr Lr Mr) (by omega)),
        .alloc 0 _ rfl rfl (.inl ⟨rfl, rfl⟩) rfl rfl rfl rfl rfl,
        .store 0 _ _ _ rfl rfl rfl rfl rfl rfl rfl (fun ia h => by cases h; rfl) rfl rfl rfl OutR.cs,
        trivial⟩
    · intro a2 w2 gs2 hn2 hd2 hBt hr hR hP hX hU
      replace hn := hn2; replace hd := hd2.trans hd
      obtain ⟨n_3, a_3, c_3, r_3, b_3, d_3, s_3, e5, G3, K3, l3, k3⟩ : OutR ((nm (tp pr qr) (tq qr))) ((dn (tp pr qr) (tq qr))) (2 * ((Br) + 2)) (a2.eval (.tmp 5)) w2 := hP 1 (by decide)
      have A3 := G3.ag; have S3 := K3.sl; have V3 := K3.val
      have b3 : BoxV R3 w2 (gs2 0) (.agg #[.bool n_3, .slice a_3 r_3.length c_3, .slice b_3 s_3.length d_3]) := boxv_of (hX 0 _ rfl).2.2.2 e5
      have f3 := (hX 0 _ rfl).1
      have u3 : w.heap.size ≤ gs2 0 := Nat.le_trans HB.size ((hX 0 _ rfl).2.2.1 (by simp))
      replace f2 := (hR 2 rfl).trans f2
      replace Ar := Ar.rl hr
      replace Sr := Sr.rl hr
      replace Dr := Dr.rl hr
      replace HB := HB.trans (hBt.below HB.size (UpOld.all (bx := [⟨R3, some 2, 0, 3, .agg #[.bool false, .slice none 0 0, .slice none 0 0], some (3, 5, 1), []⟩]) ⟨someNe, trivial⟩))
      clear hBt hr hR hP hX hU
      refine wp_seq ?_
      refine region4 [some 6, some 7, some 8, some 9, some 10, some 11, some 12, some 13, some 2] [Eqs (.pointer (some ⟨gs2 0, 0, none⟩)), Eqs (.pointer (some ⟨gs2 0, 1, none⟩)), Eqs (.slice a_3 r_3.length c_3), Eqs (.int .i64 (r_3.length : Int)), Eqs (.pointer (some ⟨gs2 0, 2, none⟩)), Eqs (.slice b_3 s_3.length d_3), Eqs (.int .i64 (s_3.length : Int)), Eqs (.int .i64 ((max r_3.length s_3.length : Nat) : Int)), Eqs (.int .i64 ((max r_3.length s_3.length : Nat) : Int))] [] [] (by kernel_rfl) hn rfl (by kernel_rfl) (by kernel_rfl) (by kernel_rfl) (by kernel_rfl) (by kernel_rfl) (by kernel_rfl) ⟨Eqs.mono4 _, Eqs.mono4 _, Eqs.mono4 _, Eqs.mono4 _, Eqs.mono4 _, Eqs.mono4 _, Eqs.mono4 _, Eqs.mono4 _, Eqs.mono4 _, trivial⟩ ok_nil (IsOld.all (bx := []) trivial) (DisOld.all (bx := []) trivial) ?_ ?_
      · exact ⟨.norm 6 rfl rfl rfl (fun a_ w_ hn_ hBt hr hR hD hO hS => op_faR fa_num ((hR 3 rfl).trans f3)),
          .norm 7 rfl rfl rfl (fun a_ w_ hn_ hBt hr hR hD hO hS => op_fa fa_mag (show a_.eval (.tmp 6) = .pointer (some ⟨gs2 0, 0, none⟩) from hD 0 rfl)),
          .norm 8 rfl rfl rfl (fun a_ w_ hn_ hBt hr hR hD hO hS => op_ldrmag (show a_.eval (.tmp 7) = .pointer (some ⟨gs2 0, 1, none⟩) from hD 1 rfl) (b3.keep hBt trivial)),
          .norm 9 rfl rfl rfl (fun a_ w_ hn_ hBt hr hR hD hO hS => op_len (show a_.eval (.tmp 8) = .slice a_3 r_3.length c_3 from hD 2 rfl)),
          .norm 10 rfl rfl rfl (fun a_ w_ hn_ hBt hr hR hD hO hS => op_faR fa_den ((hR 3 rfl).trans f3)),
          .norm 11 rfl rfl rfl (fun a_ w_ hn_ hBt hr hR hD hO hS => op_ldden (show a_.eval (.tmp 10) = .pointer (some ⟨gs2 0, 2, none⟩) from hD 4 rfl) (b3.keep hBt trivial)),
          .norm 12 rfl rfl rfl (fun a_ w_ hn_ hBt hr hR hD hO hS => op_len (show a_.eval (.tmp 11) = .slice b_3 s_3.length d_3 from hD 5 rfl)),
          .norm 13 rfl rfl rfl (fun a_ w_ hn_ hBt hr hR hD hO hS => op_max (show a_.eval (.tmp 9) = .int .i64 (r_3.length : Int) from hD 3 rfl) (show a_.eval (.tmp 12) = .int .i64 (s_3.length : Int) from hD 6 rfl)),
          .norm 2 rfl rfl rfl (fun a_ w_ hn_ hBt hr hR hD hO hS => op_assign (show a_.eval (.tmp 13) = .int .i64 ((max r_3.length s_3.length : Nat) : Int) from hD 7 rfl)),
          trivial⟩
      · intro a4 w4 gs4 hn4 hd4 hBt hr hR hP hX hU
        replace hn := hn4; replace hd := hd4.trans hd
        have e2 : a4.eval (.tmp 2) = .int .i64 ((max r_3.length s_3.length : Nat) : Int) := hP 8 (by decide)
        have f2 := e2
        replace Ar := Ar.rl hr
        replace Sr := Sr.rl hr
        replace Dr := Dr.rl hr
        replace G3 := G3.rl hr
        replace A3 := A3.rl hr
        replace K3 := K3.rl hr
        replace S3 := S3.rl hr
        replace HB := HB.trans (hBt.below HB.size (UpOld.all (bx := []) trivial))
        clear hBt hr hR hP hX hU
        refine wp_ret ?_
        repeat (first | refine then_ret ?_ | refine scope_ret ?_ | refine block_ret ?_)
        have hlp_ := isLen_one ⟨r_3, G3.1.canon, G3.1.val, rfl⟩ hmP; have hlq_ := isLen_one ⟨s_3, K3.canon, K3.val, rfl⟩ hmQ
        exact bodyPost_ret (v := .int .i64 ((max r_3.length s_3.length : Nat) : Int)) (res_t rfl f2) hd ⟨_, rfl, (by rw [Eqs, hlp_, hlq_]), HB⟩
end Lm
end Go.Proofs.YtnomflballofiaaGreat

namespace Go.Proofs.YtnomflballofiaaGreat
namespace Md
def dotN (n : Nat) (x y : Rw) : Int := sumL (fun k => x k * y k) (List.range n)
theorem sumL_add (f g : Nat → Int) : ∀ l : List Nat, sumL (fun k => f k + g k) l = sumL f l + sumL g l
  | [] => rfl
  | x :: l => by rw [sumL, sumL, sumL, sumL_add f g l]; omega
theorem sumL_zero {f : Nat → Int} {l : List Nat} (h : ∀ k ∈ l, f k = 0) : sumL f l = 0 := by
  induction l with
  | nil => rfl
  | cons x l ih => rw [sumL, h x (by simp), ih (fun k hk => h k (by simp [hk]))]; rfl
theorem sumL_one {f : Nat → Int} {q : Nat} : ∀ {l : List Nat}, l.Nodup → q ∈ l → sumL (fun k => if k = q then f k else 0) l = f q
  | x :: l, hn, hq => by
    obtain ⟨h1, h2⟩ := List.nodup_cons.1 hn
    rw [sumL]
    by_cases e : x = q
    · subst e
      rw [if_pos rfl, sumL_zero (fun k hk => if_neg (fun e => h1 (by rw [← e]; exact hk)))]
      omega
    · rw [if_neg e, sumL_one h2 (by rcases List.mem_cons.1 hq with h | h; exact absurd h.symm e; exact h)]
      omega
theorem sumL_among {g : Nat → Int} {l : List Nat} (hl : l.Nodup) : ∀ {Q : List Nat}, Q.Nodup → (∀ q ∈ Q, q ∈ l) → sumL (fun k => if k ∈ Q then g k else 0) l = sumL g Q
  | [], _, _ => sumL_zero (fun k _ => if_neg (by simp))
  | q :: Q, hn, hs => by
    obtain ⟨h1, h2⟩ := List.nodup_cons.1 hn
    have e : (fun k => if k ∈ q :: Q then g k else 0) = fun k => (if k = q then g k else 0) + (if k ∈ Q then g k else 0) := by
      funext k
      by_cases hk : k = q
      · subst hk; rw [if_pos (by simp), if_pos rfl, if_neg h1]; omega
      · by_cases hk' : k ∈ Q
        · rw [if_pos (by simp [hk']), if_neg hk, if_pos hk']; omega
        · rw [if_neg (by simp [hk, hk']), if_neg hk, if_neg hk']; rfl
    rw [e, sumL_add, sumL_one hl (hs q (by simp)), sumL_among hl h2 (fun x hx => hs x (by simp [hx])), sumL]
def free (n : Nat) (Q : List Nat) : List Nat := (List.range n).filter (fun c => decide (c ∉ Q))
theorem free_mem {n : Nat} {Q : List Nat} {c : Nat} : c ∈ free n Q ↔ c < n ∧ c ∉ Q := by simp [free]
theorem free_nodup (n : Nat) (Q : List Nat) : (free n Q).Nodup := List.nodup_range.filter _
theorem free_len {n : Nat} {Q : List Nat} (hn : Q.Nodup) (hQ : ∀ q ∈ Q, q < n) : (free n Q).length + Q.length = n := by
  have hnd : (free n Q ++ Q).Nodup := by
    rw [List.nodup_append]
    exact ⟨free_nodup n Q, hn, fun a ha b hb e => (free_mem.1 ha).2 (by rw [e]; exact hb)⟩
  have hp : (free n Q ++ Q).Perm (List.range n) := (List.perm_ext_iff_of_nodup hnd List.nodup_range).2 (fun c => by
    rw [List.mem_append, free_mem, List.mem_range]
    constructor
    · rintro (h | h)
      · exact h.1
      · exact hQ c h
    · intro h
      by_cases hc : c ∈ Q
      · exact .inr hc
      · exact .inl ⟨h, hc⟩)
  have := hp.length_eq
  rw [List.length_append, List.length_range] at this
  exact this
end Md
end Go.Proofs.YtnomflballofiaaGreat

namespace Go.Proofs.YtnomflballofiaaGreat
namespace Lm
open Go Go.RowKit
def MidK (n ix : Nat) (keep : Nat → Bool) (Ds : List Nat) (Ps : List Says) (a0 : Act) (w0 : World) (l : Array Bool) (a : Act) (w : World) : Prop :=
  l.size = Ds.length ∧ a.tmps.size = n ∧ a.defers = a0.defers ∧ Below w0.heap.size w0 w ∧ Rest Ds a0 a ∧ (∀ j, l.getD j false = true → (l.getD ix false = false ∨ keep j = true) → Ps.getD j (fun _ _ => True) (a.eval (.tmp (Ds.getD j 0))) w)
def MonosK (ops : Array Oper) (ix : Nat) (keep : Nat → Bool) (B : Nat) (Ps : List Says) : Prop := ∀ j, j ≠ ix → keep j = true → waits ops ops.size j ix = false → ∀ v w w', Below B w w' → Ps.getD j (fun _ _ => True) v w → Ps.getD j (fun _ _ => True) v w'
def DutyK (P : Program) (n ix : Nat) (Ds : List Nat) (Ps : List Says) (a0 : Act) (w0 : World) (i : Nat) (o : Oper) (d : Nat) (p : Says) : Prop :=
  o.dst = some d ∧ o.guard = none ∧ ∀ a w, a.tmps.size = n → Below w0.heap.size w0 w → Rest Ds a0 a → Deps Ds Ps o a w → (i ≠ ix → Does P o a.eval w fun v w' => Below w.heap.size w w' ∧ p v w') ∧ (i = ix → Does P o a.eval w fun v w' => Below w0.heap.size w w' ∧ p v w')
def DutiesK (P : Program) (n ix : Nat) (Ds : List Nat) (Ps : List Says) (a0 : Act) (w0 : World) : Nat → List Oper → List Nat → List Says → Prop
  | _, [], [], [] => True
  | i, o :: os, d :: ds, p :: ps => DutyK P n ix Ds Ps a0 w0 i o d p ∧ DutiesK P n ix Ds Ps a0 w0 (i + 1) os ds ps
  | _, _, _, _ => False
theorem DutiesK.at {P : Program} {n ix : Nat} {Ds : List Nat} {Ps : List Says} {a0 : Act} {w0 : World} : ∀ {m : Nat} {os : List Oper} {ds : List Nat} {ps : List Says}, DutiesK P n ix Ds Ps a0 w0 m os ds ps → ds.length = os.length ∧ ∀ i o, os[i]? = some o → DutyK P n ix Ds Ps a0 w0 (m + i) o (ds.getD i 0) (ps.getD i fun _ _ => True)
  | _, [], [], [], _ => ⟨rfl, fun i o h => by simp at h⟩
  | m, o :: os, d :: ds, p :: ps, h => by
    obtain ⟨h1, h2⟩ := h
    obtain ⟨hl, h3⟩ := DutiesK.at h2
    refine ⟨by simp [hl], fun i o' ho => ?_⟩
    cases i with
    | zero =>
      simp only [List.getElem?_cons_zero, Option.some.injEq] at ho
      subst ho
      simpa using h1
    | succ i =>
      have := h3 i o' (by simpa using ho)
      rw [show m + 1 + i = m + (i + 1) by omega] at this
      simpa using this
  | _, [], _ :: _, _, h => h.elim
  | _, [], [], _ :: _, h => h.elim
  | _, _ :: _, [], _, h => h.elim
  | _, _ :: _, _ :: _, [], h => h.elim
theorem DutiesK.take {P : Program} {n ix : Nat} {Ds : List Nat} {Ps : List Says} {a0 : Act} {w0 : World} {ops : Array Oper} {m : Nat} (h : DutiesK P n ix Ds Ps a0 w0 0 (ops.toList.take m) Ds Ps) (hm : m ≤ ops.size) : Ds.length = m ∧ ∀ i o, ops[i]? = some o → i < Ds.length → DutyK P n ix Ds Ps a0 w0 i o (Ds.getD i 0) (Ps.getD i fun _ _ => True) := by
  obtain ⟨hl, hat⟩ := h.at
  have hl' : Ds.length = m := by rw [hl, List.length_take]; simp; omega
  refine ⟨hl', fun i o ho hi => ?_⟩
  have := hat i o (by rw [List.getElem?_take_of_lt (by omega), Array.getElem?_toList]; exact ho)
  rwa [Nat.zero_add] at this
theorem MidK.put {n ix : Nat} {keep : Nat → Bool} {Ds : List Nat} {Ps : List Says} {a0 : Act} {w0 : World} {l : Array Bool} {a : Act} {w w' : World} {i : Nat} {v : Value} (h : MidK n ix keep Ds Ps a0 w0 l a w) (hi : i < Ds.length) (hnd : Ds.Nodup) (hlt : (Ds.all fun d => decide (d < n)) = true) (ht : Below w0.heap.size w w') (hk : ∀ j, j ≠ i → l.getD j false = true → ((l.setIfInBounds i true).getD ix false = false ∨ keep j = true) → ∀ u, ((l.getD ix false = false ∨ keep j = true) → Ps.getD j (fun _ _ => True) u w) → Ps.getD j (fun _ _ => True) u w') (hp : Ps.getD i (fun _ _ => True) v w') :
    MidK n ix keep Ds Ps a0 w0 (l.setIfInBounds i true) (a.put (some (Ds.getD i 0)) v) w' := by
  obtain ⟨h1, h2, h3, h4, h5, h6⟩ := h
  have hd : Ds.getD i 0 < n := by
    have := List.all_eq_true.1 hlt (Ds.getD i 0) (by rw [List.getD_eq_getElem?_getD, List.getElem?_eq_getElem hi]; simp)
    simpa using this
  refine ⟨by simp [h1], by rw [put_tmps]; simp [h2], h3, h4.trans ht, fun k hk => ?_, fun j hj hjk => ?_⟩
  · rw [eval_put_ne, h5 k hk]
    rintro rfl
    have : Ds.contains (Ds.getD i 0) = true := by
      rw [List.contains_iff_mem, List.getD_eq_getElem?_getD, List.getElem?_eq_getElem hi]
      simp
    rw [this] at hk
    cases hk
  · by_cases e : j = i
    · subst e
      rw [eval_put_same (by omega)]
      exact hp
    · rw [getD_set_ne false (fun h => e h.symm)] at hj
      have hjl : j < Ds.length := by
        rw [Array.getD_eq_getD_getElem?] at hj
        cases hc : l[j]? with
        | none => rw [hc] at hj; simp at hj
        | some b => rw [← h1]; exact (Array.getElem?_eq_some_iff.1 hc).1
      rw [eval_put_ne (nodup_getD hnd hi hjl (fun h => e h.symm))]
      exact hk j e hj hjk _ (fun hh => h6 j hj hh)
theorem duty_oneK {P : Program} {ops : Array Oper} {Q : Exit → Act → World → Prop} {n ix : Nat} {keep : Nat → Bool} {Ds : List Nat} {Ps : List Says} {a0 : Act} {w0 : World} {l : Array Bool} {a : Act} {w : World} {i : Nat} {o : Oper} (hat : ∀ i o, ops[i]? = some o → i < Ds.length → DutyK P n ix Ds Ps a0 w0 i o (Ds.getD i 0) (Ps.getD i fun _ _ => True)) (hnd : Ds.Nodup) (hlt : (Ds.all fun d => decide (d < n)) = true) (hM : Monos Ps) (hT : MonosK ops ix keep w0.heap.size Ps) (hsh : ∀ j, l.getD j false = true → waits ops ops.size j ix = true → l.getD ix false = true) (ho : ops[i]? = some o) (hil : i < Ds.length) (hun : l.getD i false = false) (h : MidK n ix keep Ds Ps a0 w0 l a w) (hdeps : ∀ e ∈ o.after, Region.binds .any e = true → l.getD e.on false = true) (hkp : l.getD ix false = false ∨ ∀ e ∈ o.after, Region.binds .any e = true → keep e.on = true) :
    wpOp P ops Q i (fun a' w' => MidK n ix keep Ds Ps a0 w0 (l.setIfInBounds i true) a' w') a w := by
  have h' := h
  obtain ⟨h1, h2, h3, h4, h5, h6⟩ := h
  obtain ⟨hdst, hgd, hduty⟩ := hat i o ho hil
  obtain ⟨hd1, hd2⟩ := hduty a w h2 h4 h5 (fun j hj => by
    obtain ⟨e, he, hj⟩ := List.any_eq_true.1 hj
    simp only [Bool.and_eq_true, beq_iff_eq] at hj
    obtain ⟨rfl, hb⟩ := hj
    exact h6 _ (hdeps e (by simpa using he) hb) (hkp.elim .inl (fun h => .inr (h e (by simpa using he) hb))))
  refine wpOp_step ho (fun K' hK => ?_)
  simp only [Region.wanted, hgd, if_true]
  by_cases hix : i = ix
  · subst hix
    refine Does.wp (hd2 rfl) (fun v w' ⟨hb, hp⟩ => ?_)
    rw [hdst]
    refine hK _ _ (h'.put hil hnd hlt hb (fun j hj hlj hjk u hu => ?_) hp)
    rcases hjk with hjk | hjk
    · rw [Array.getD_eq_getD_getElem?, Array.getElem?_setIfInBounds_self_of_lt (by omega)] at hjk
      cases hjk
    · refine hT j hj hjk ?_ u w w' hb (hu (.inl hun))
      cases hw : waits ops ops.size j i with
      | false => rfl
      | true =>
        have := hsh j hlj hw
        rw [hun] at this
        cases this
  · refine Does.wp (hd1 hix) (fun v w' ⟨hb, hp⟩ => ?_)
    rw [hdst]
    refine hK _ _ (h'.put hil hnd hlt (hb.mono h4.size) (fun j _ _ hjk u hu => hM.at j u w w' hb (hu ?_)) hp)
    rwa [getD_set_ne false hix] at hjk
theorem region_tailK {P : Program} {ops : Array Oper} {Q : Exit → Act → World → Prop} {id n : Nat} {a : Act} {w : World} (ix m : Nat) (keep : Nat → Bool) (Ds : List Nat) (Ps : List Says) (hm : P.follows .mixedOrders = true) (hn : a.tmps.size = n) (hnd : Ds.Nodup) (hlt : (Ds.all fun d => decide (d < n)) = true)
    (hdep : (ops.toList.zipIdx.all fun p => p.1.after.all fun e => decide (e.on < p.2)) = true) (hms : m ≤ ops.size) (hall : ((List.range ops.size).all fun i => decide (i < m) || (List.range i).all fun j => waits ops ops.size i j) = true) (hkp : ((List.range m).all fun i => i == ix || waits ops ops.size ix i || (match ops[i]? with | some o => o.after.all (fun e => !Region.binds .any e || keep e.on) | none => true)) = true) (hM : Monos Ps) (hT : MonosK ops ix keep w.heap.size Ps) (hD : DutiesK P n ix Ds Ps a w 0 (ops.toList.take m) Ds Ps) (hixm : ix < m)
    (hend : ∀ a' w', a'.tmps.size = n → a'.defers = a.defers → Below w.heap.size w w' → Rest Ds a a' → (∀ j, j < Ds.length → keep j = true → Ps.getD j (fun _ _ => True) (a'.eval (.tmp (Ds.getD j 0))) w') → wpList P ops Q (ops.toList.drop m) a' w') : (Code.region id ops true).wp P Q a w := by
  obtain ⟨hlen, hat⟩ := hD.take hms
  have hL : ∀ k, k ≤ ops.size → wpOps P ops Q (List.range' k (ops.size - k)) = wpList P ops Q (ops.toList.drop k) := fun k hk => by
    have := wpOps_eq_wpList (P := P) (ops := ops) (Q := Q) (ops.toList.drop k) k (fun j => by rw [List.getElem?_drop, Array.getElem?_toList])
    rw [← this]
    simp
  have hneed : ∀ i o, ops[i]? = some o → m ≤ i → ∀ l : Array Bool, Shut ops l → (∀ e ∈ o.after, Region.binds .any e = true → l.getD e.on false = true) → ∀ j, j < i → l.getD j false = true := by
    intro i o ho hi l hc hl j hj
    have hio : i < ops.size := (Array.getElem?_eq_some_iff.1 ho).1
    have h1 := List.all_eq_true.1 hall i (List.mem_range.2 hio)
    simp only [Bool.or_eq_true, decide_eq_true_eq] at h1
    rcases h1 with h1 | h1
    · omega
    · exact waits_done hc _ i j o ho hl (List.all_eq_true.1 h1 j (List.mem_range.2 hj))
  have hkp' : ∀ i o, ops[i]? = some o → i < m → ∀ l : Array Bool, l.getD i false = false → Shut ops l → (l.extract 0 m).getD ix false = false ∨ ∀ e ∈ o.after, Region.binds .any e = true → keep e.on = true := by
    intro i o ho him l hun hcl
    cases hx : (l.extract 0 m).getD ix false with
    | false => exact .inl rfl
    | true =>
      refine .inr fun e he hb => ?_
      rw [getD_extract hixm] at hx
      have h1 := List.all_eq_true.1 hkp i (List.mem_range.2 him)
      simp only [Bool.or_eq_true, beq_iff_eq] at h1
      rcases h1 with (h1 | h1) | h1
      · subst h1
        rw [hun] at hx
        cases hx
      · exfalso
        obtain ⟨ox, hox⟩ : ∃ ox, ops[ix]? = some ox := ⟨_, Array.getElem?_eq_getElem (by omega)⟩
        have := waits_done hcl _ ix i ox hox (hcl ix ox hox hx) h1
        rw [hun] at this
        cases this
      · rw [ho] at h1
        have h2 := Array.all_eq_true_iff_forall_mem.1 h1 e he
        simp only [hb, Bool.not_true, Bool.false_or] at h2
        exact h2
  have hsh' : ∀ l : Array Bool, Shut ops l → ∀ j, (l.extract 0 m).getD j false = true → waits ops ops.size j ix = true → (l.extract 0 m).getD ix false = true := by
    intro l hcl j hj hw
    have hjm : j < m := by
      apply Classical.byContradiction
      intro hno
      rw [Array.getD_eq_getD_getElem?, Array.getElem?_eq_none (by simp; omega)] at hj
      cases hj
    rw [getD_extract hjm] at hj
    rw [getD_extract hixm]
    obtain ⟨oj, hoj⟩ : ∃ oj, ops[j]? = some oj := ⟨_, Array.getElem?_eq_getElem (by omega)⟩
    exact waits_done hcl _ j ix oj hoj (hcl j oj hoj hj) hw
  refine wp_region_inv hm (fun l a' w' => (l.size = ops.size ∧ Shut ops l) ∧ (((∀ j, m ≤ j → l.getD j false = false) ∧ MidK n ix keep Ds Ps a w (l.extract 0 m) a' w') ∨ ∃ j, m < j ∧ j ≤ ops.size ∧ (∀ k, k < j → l.getD k false = true) ∧ (∀ k, j ≤ k → l.getD k false = false) ∧ wpOps P ops Q (List.range' j (ops.size - j)) a' w')) ?_ ?_ ?_
  · refine ⟨⟨by simp, fun j o _ hj => ?_⟩, .inl ⟨fun j _ => ?_, by simp [hlen]; omega, hn, rfl, Below.drew (Below.refl _ _), fun _ _ => rfl, fun j hj _ => ?_⟩⟩
    · exfalso
      simp [Array.getElem?_replicate] at hj
      split at hj <;> simp at hj
    · simp [Array.getElem?_replicate]
      split <;> simp
    · exfalso
      by_cases hjm : j < m
      · rw [getD_extract hjm] at hj
        simp [Array.getElem?_replicate] at hj
        split at hj <;> simp at hj
      · rw [Array.getD_eq_getD_getElem?, Array.getElem?_eq_none (by simp; omega)] at hj
        simp at hj
  · rintro l a' w' ⟨⟨hs, hcl⟩, hI⟩ hr
    have hal := all_listed hdep hs hr
    rcases hI with ⟨h1, h2, h3, h4, h5, h6, h7⟩ | ⟨j, hj1, hj2, hj3, hj4, hj5⟩
    · have hmo : m = ops.size := by
        apply Classical.byContradiction
        intro hne
        have := hal m (by omega)
        rw [h1 m (Nat.le_refl _)] at this
        cases this
      have := hend a' w' h3 h4 h5 h6 (fun j hj hkj => h7 j (by rw [getD_extract (by omega)]; exact hal j (by omega)) (.inr hkj))
      rw [List.drop_eq_nil_of_le (by simp; omega)] at this
      exact this
    · have hje : j = ops.size := by
        apply Classical.byContradiction
        intro hne
        have := hal j (by omega)
        rw [hj4 j (Nat.le_refl _)] at this
        cases this
      subst hje
      simpa [wpOps] using hj5
  · rintro l a' w' ⟨⟨hs, hcl⟩, hI⟩ i hi
    obtain ⟨hun, o, ho, hdeps⟩ := mem_ready.1 hi
    have hio : i < ops.size := (Array.getElem?_eq_some_iff.1 ho).1
    have hset : ∀ k, k ≠ i → (l.setIfInBounds i true).getD k false = l.getD k false := fun k hk => getD_set_ne false (fun e => hk e.symm)
    have hseti : (l.setIfInBounds i true).getD i false = true := by
      rw [Array.getD_eq_getD_getElem?, Array.getElem?_setIfInBounds_self_of_lt (by omega)]
      rfl
    have hif : l.getD i false = false := by
      rw [Array.getD_eq_getD_getElem?] at hun ⊢
      cases hc : l[i]? with
      | none => rfl
      | some b => rw [hc] at hun; simpa using hun
    have hcl' : Shut ops (l.setIfInBounds i true) := hcl.set ho hdeps
    have hrun : ∀ j, j = i → wpOps P ops Q (List.range' j (ops.size - j)) a' w' → m ≤ j → (∀ k, k < j → l.getD k false = true) → (∀ k, j ≤ k → l.getD k false = false) → wpOp P ops Q i (fun a' w' => ((l.setIfInBounds i true).size = ops.size ∧ Shut ops (l.setIfInBounds i true)) ∧ (((∀ j, m ≤ j → (l.setIfInBounds i true).getD j false = false) ∧ MidK n ix keep Ds Ps a w ((l.setIfInBounds i true).extract 0 m) a' w') ∨ ∃ j, m < j ∧ j ≤ ops.size ∧ (∀ k, k < j → (l.setIfInBounds i true).getD k false = true) ∧ (∀ k, j ≤ k → (l.setIfInBounds i true).getD k false = false) ∧ wpOps P ops Q (List.range' j (ops.size - j)) a' w')) a' w' := by
      rintro j rfl hw hmj hlo hhi
      rw [show ops.size - j = (ops.size - (j + 1)) + 1 by omega, List.range'_succ, wpOps_cons] at hw
      refine wpOp_mono (fun a2 w2 h => ⟨⟨by simpa using hs, hcl'⟩, .inr ⟨j + 1, by omega, by omega, fun k hk => ?_, fun k hk => ?_, h⟩⟩) hw
      · by_cases e : k = j
        · subst e; exact hseti
        · rw [hset k e]; exact hlo k (by omega)
      · rw [hset k (by omega)]; exact hhi k (by omega)
    rcases hI with ⟨h1, hmid⟩ | ⟨j, hj1, hj2, hj3, hj4, hj5⟩
    · by_cases him : i < m
      · have hd' : ∀ e ∈ o.after, Region.binds .any e = true → (l.extract 0 m).getD e.on false = true := fun e he hb => by
          have h2 := List.all_eq_true.1 hdep (o, i) (by rw [List.mem_zipIdx_iff_getElem?]; simpa using ho)
          have h3 : e.on < i := by simpa using Array.all_eq_true_iff_forall_mem.1 h2 e he
          rw [getD_extract (by omega)]
          exact hdeps e he hb
        refine wpOp_mono (fun a2 w2 h => ⟨⟨by simpa using hs, hcl'⟩, .inl ⟨fun k hk => ?_, ?_⟩⟩) (duty_oneK hat hnd hlt hM hT (hsh' l hcl) ho (by omega) (by rw [getD_extract him]; exact hif) hmid hd' (hkp' i o ho him l hif hcl))
        · rw [hset k (by omega)]
          exact h1 k hk
        · rw [extract_set]
          exact h
      · have hpre := hneed i o ho (by omega) l hcl hdeps
        have hie : i = m := by
          apply Classical.byContradiction
          intro hne
          have := hpre m (by omega)
          rw [h1 m (Nat.le_refl _)] at this
          cases this
        subst hie
        obtain ⟨h2, h3, h4, h5, h6, h7⟩ := hmid
        have hw := hend a' w' h3 h4 h5 h6 (fun j hj hkj => h7 j (by rw [getD_extract (by omega)]; exact hpre j (by omega)) (.inr hkj))
        rw [← hL _ hms] at hw
        exact hrun i rfl hw (Nat.le_refl _) hpre h1
    · have hij : i = j := by
        apply Classical.byContradiction
        intro hne
        by_cases hlt' : i < j
        · rw [hj3 i hlt'] at hif
          cases hif
        · have := hneed i o ho (by omega) l hcl hdeps j (by omega)
          rw [hj4 j (Nat.le_refl _)] at this
          cases this
      exact hrun j hij.symm hj5 (by omega) hj3 hj4
end Lm
end Go.Proofs.YtnomflballofiaaGreat

