/-
  The given statement on MatrixTurns, for every input: the call answers true, and each argument reads behind it as it read before. No condition beyond the statement's own. Beside it: MatrixTurns: how the determinant turns with the rows.
-/
import Derived.Test.YtodgiglhconkoaaRows
import Derived.ProofKit
import Derived.OpenShut
import Derived.ShutString
import Derived.ChangeOld
import Derived.SizedLaws
import Derived.Test.YtodgiglhconkoaaMZsLawZ3
namespace Go.Proofs.Ytodgiglhconkoaa
namespace Lm
open Go Go.RowKit Md
section
variable {dst : Option Tmp} {ty : TypeId} {pos : String} {after : Array Edge} {guard : Option (Nat × Bool)} {a : Act} {w : World} {ats : Array TypeId} {i j : Nat}
theorem op_eqE {u v : Int} (h1 : a.eval (.tmp i) = .int .i64 u) :
    Does Try.prog { dst, op := .binOp .eql 33 (.tmp i) (.const (.int .i64 v)) 33, type := ty, pos, after, guard } a.eval w fun v' w' => Below w.heap.size w w' ∧ Eqs (.bool (decide (u = v))) v' w' := by
  refine does_bin (v := .bool (decide (u = v))) ?_ ?_ ⟨Below.refl _ _, rfl⟩
  · rw [h1]; simp [go_sem, Act.eval]
  · rw [h1]; simp [go_sem, Act.eval]; rfl
theorem op_idxM0 {b off n c : Nat} {ao : Option Addr} (h : a.eval (.tmp i) = .slice ao n c) (hao : ao = some ⟨b, off, none⟩) (hl : 0 < n) : Does Try.prog { dst, op := .indexAddr 22 (.tmp i) (.const (.int .i64 0)), type := ty, pos, after, guard } a.eval w fun v' w' => Below w.heap.size w w' ∧ Eqs (.pointer (some ⟨b, off + 0, none⟩)) v' w' := by
  subst hao
  have hl' : (0 : Int) < (n : Int) := by omega
  have e : (execOp a.eval { dst, op := .indexAddr 22 (.tmp i) (.const (.int .i64 0)), type := ty, pos, after, guard }).run Try.prog w = .ok (.value (.pointer (some ⟨b, off + 0, none⟩))) w := by
    have hc : a.eval (.const (.int .i64 0)) = .int .i64 0 := rfl
    simp only [execOp, h, hc]
    go_simp
  refine ⟨?_⟩
  unfold Turns
  rw [e]
  exact ⟨Below.refl _ _, rfl⟩
theorem op_idxr0 {b off n c : Nat} {ao : Option Addr} (h : a.eval (.tmp i) = .slice ao n c) (hao : ao = some ⟨b, off, none⟩) (hl : 0 < n) : Does Try.prog { dst, op := .indexAddr 27 (.tmp i) (.const (.int .i64 0)), type := ty, pos, after, guard } a.eval w fun v' w' => Below w.heap.size w w' ∧ Eqs (.pointer (some ⟨b, off + 0 * 2, none⟩)) v' w' := by
  subst hao
  have hl' : (0 : Int) < (n : Int) := by omega
  have e : (execOp a.eval { dst, op := .indexAddr 27 (.tmp i) (.const (.int .i64 0)), type := ty, pos, after, guard }).run Try.prog w = .ok (.value (.pointer (some ⟨b, off + 0 * 2, none⟩))) w := by
    have hc : a.eval (.const (.int .i64 0)) = .int .i64 0 := rfl
    simp only [execOp, h, hc]
    go_simp
  refine ⟨?_⟩
  unfold Turns
  rw [e]
  exact ⟨Below.refl _ _, rfl⟩
end
section
variable {dst : Option Tmp} {ty : TypeId} {pos : String} {after : Array Edge} {guard : Option (Nat × Bool)} {a : Act} {w : World} {ats : Array TypeId} {i : Nat}
theorem op_negT {x : Int} {L : Nat} (h : OutW x L (a.eval (.tmp i)) w) (hL : L ≤ 400000 := by decide) :
    Does Try.prog { dst, op := .call { callee := .value (.func 18), args := #[.tmp i], argTypes := ats }, type := ty, pos, after, guard } a.eval w fun v' w' => Below w.heap.size w w' ∧ OutW (-x) L v' w' := op_neg h.is hL
theorem op_limbB {x : Int} {L : Nat} (h : OutW x L (a.eval (.tmp i)) w) (hb : big x = true) (hL : L ≤ 400000 := by decide) :
    Does Try.prog { dst, op := .call { callee := .value (.func 19), args := #[.tmp i], argTypes := ats }, type := ty, pos, after, guard } a.eval w fun v' w' => Below w.heap.size w w' ∧ ∃ n : Nat, v' = .int .i64 (n : Int) ∧ 32 < n :=
  does_call has_limbs #[_] (by simp) ((limbsF w x L _ h.is hL).mono fun e w' ⟨m, he, hm, hbl⟩ => ⟨_, he, hbl, m, rfl, by
    by_cases h32 : m ≤ 32
    · exact absurd (hm.1 h32) (of_decide_eq_true hb)
    · omega⟩)
theorem op_gtrB (h : ∃ n : Nat, a.eval (.tmp i) = .int .i64 (n : Int) ∧ 32 < n) :
    Does Try.prog { dst, op := .binOp .gtr 3 (.tmp i) (.const (.int .i64 32)) 3, type := ty, pos, after, guard } a.eval w fun v' w' => Below w.heap.size w w' ∧ Eqs (.bool true) v' w' := by
  obtain ⟨n, h1, h2⟩ := h
  exact (op_gtrk h1).mono (fun v' w' ⟨hb, e⟩ => ⟨hb, by rw [Eqs, show v' = _ from e, decide_eq_true (by omega)]⟩)
end
theorem big_neg (x : Int) : big (-x) = big x := by unfold big; rw [Int.natAbs_neg]
theorem shaped_set {rows : List (List Int)} {m i : Nat} {z : List Int} (h : Shaped rows (m : Int)) (hz : z.length = m) : Shaped (rows.set i z) (m : Int) := by
  refine ⟨h.1, h.2.1, by rw [List.length_set]; exact h.2.2.1, fun r hr => ?_⟩
  rcases List.mem_or_eq_of_mem_set hr with hr | rfl
  · exact h.2.2.2 r hr
  · rw [hz]
theorem fnR_beyond {rows : List (List Int)} {m i c : Nat} (h : ∀ r ∈ rows, r.length = m) (hi : i < rows.length) (hc : m ≤ c) : fnR (rowAt rows i) c = 0 := fnR_out (by rw [h _ (rowAt_mem hi)]; exact hc)
theorem isrow_set {w w' : World} {vs : List Value} {rows : List (List Int)} {L L' i : Nat} {u : Value} {z : List Int} (h : ∀ (k : Nat) (u : Value) (z : List Int), vs[k]? = some u → rows[k]? = some z → IsRow w u z L) (hb : Below w.heap.size w w') (hL : L ≤ L') (hl : vs.length = rows.length) (hu : IsRow w' u z L') : ∀ (k : Nat) (x : Value) (y : List Int), (vs.set i u)[k]? = some x → (rows.set i z)[k]? = some y → IsRow w' x y L' := by
  intro k x y hx hy
  by_cases e : i = k
  · subst e
    have hk := (List.getElem?_eq_some_iff.1 hx).1
    rw [List.length_set] at hk
    rw [List.getElem?_set_self hk] at hx
    rw [List.getElem?_set_self (by omega)] at hy
    obtain rfl := Option.some.inj hx
    obtain rfl := Option.some.inj hy
    exact hu
  · rw [List.getElem?_set_ne e] at hx hy
    exact ((h k x y hx hy).below hb).wide hL
theorem isrow_set2 {w' : World} {vs : List Value} {rows : List (List Int)} {L i : Nat} {u : Value} {z : List Int} (h : ∀ (k : Nat) (u : Value) (z : List Int), vs[k]? = some u → rows[k]? = some z → IsRow w' u z L) (hl : vs.length = rows.length) (hu : IsRow w' u z L) : ∀ (k : Nat) (x : Value) (y : List Int), (vs.set i u)[k]? = some x → (rows.set i z)[k]? = some y → IsRow w' x y L := isrow_set h (Below.refl _ _) (Nat.le_refl _) hl hu
theorem dt_none (rows : List (List Int)) (h : rows.length = 0) : dt 0 rows = 1 := by
  rw [List.length_eq_zero_iff.1 h]
  rfl
theorem dt_one {rows : List (List Int)} {r : List Int} {x : Int} (h : rows = [r]) (hr : r[0]? = some x) : dt 1 rows = x := by
  subst h
  show fnR r 0 * 1 - 0 = x
  rw [Int.mul_one, Int.sub_zero]
  unfold fnR
  rw [List.getD_eq_getElem?_getD, hr]
  rfl
set_option maxRecDepth 20000 in
set_option maxHeartbeats 16000000 in
set_option maxRecDepth 100000 in
theorem mturns_s (w : World) (v0 : Value) (ess : List (List WE)) (by_ which : Int) (h0 : RwM w v0 ess) (hlen : ∀ es ∈ ess, ∀ e ∈ es, e.m ≤ 35184372088832) :
    Calls Try.prog 4 #[v0, .int .i64 by_, .int .i64 which] w fun e w' => e = .returned (.bool true) ∧ Below w.heap.size w w' := by
  obtain ⟨a0, c0, rfl, hm0⟩ := h0.parts
  have H0 := hide h0
  have HL := hide hlen
  have K1 := hide (awake6 w)
  clear h0 hlen
  obtain ⟨m, hm⟩ : ∃ m, ess.length = m := ⟨_, rfl⟩
  have HM := hide hm
  rw [hm] at H0 hm0 ⊢
  clear hm
  go_enter Try.func4, Try.ntmps4
  go_wp2_with fail
  refine K1.out.mono ?_
  rintro e w1 ⟨rfl, hb1⟩
  have HB1 := hide hb1
  have K2 := lenrows_s w1 _ ess (H0.out.below hb1) HL.out
  obtain ⟨lv, hlv⟩ : ∃ lv, IntKind.i64.wrap (lenM ess : Int) = lv := ⟨_, rfl⟩
  rw [hlv] at K2
  have K2 := hide K2
  have HLV := hide hlv
  clear hlv
  clear hb1 K1
  go_wp2_with fail
  refine K2.out.mono ?_
  rintro e w2 ⟨rfl, hb2⟩
  have HB2 := hide (HB1.out.trans (hb2.mono HB1.out.size))
  clear hb2 K2
  by_cases hlong : lv > 1500
  · have hl' : lv > 1500 := hlong
    go_wp2
    refine bodyPost_ret (v := _) (by simp [results, Try.results4, go_sem]; try rfl) rfl ⟨rfl, HB2.out⟩
  have hl' : decide (lv > 1500) = false := by simp; omega
  have HLZ : Hid ((zsM ess).length = m) := (show (zsM ess).length = m by rw [zsM_len]; exact HM.out)
  have HIB : Hid (IsM w (.slice a0 m c0) (zsM ess) 35184372088832) := (H0.out.isM_s HL.out)
  have K3 := hide (fits_any w2 _ (zsM ess) 35184372088832 (HIB.out.below HB2.out) (m : Int))
  by_cases hsh : Shaped (zsM ess) (m : Int)
  case neg =>
    rw [decide_eq_false hsh] at K3
    go_wp2_with fail
    refine K3.out.mono ?_
    rintro e w3 ⟨rfl, rfl⟩
    go_wp2
    refine bodyPost_ret (v := _) (by simp [results, Try.results4, go_sem]; try rfl) rfl ⟨rfl, HB2.out⟩
  have hlm : lenM ess ≤ 1500 := by
    have h1 := lenM_shape hsh HL.out
    have h2 := HLV.out
    rw [wr64_id (by omega) (by omega)] at h2
    omega
  have HI : Hid (IsM w (.slice a0 m c0) (zsM ess) 1500) := (H0.out.isM hlm)
  clear HIB hlm HLV
  generalize hrows : zsM ess = rows at *
  rw [decide_eq_true hsh] at K3
  go_wp2_with fail
  refine K3.out.mono ?_
  rintro e w3 ⟨rfl, rfl⟩
  by_cases hm8 : m > 8
  · have hm8' : (m : Int) > 8 := by omega
    go_wp2
    refine bodyPost_ret (v := _) (by simp [results, Try.results4, go_sem]; try rfl) rfl ⟨rfl, HB2.out⟩
  have hm8' : decide ((m : Int) > 8) = false := by simp; omega
  have HSH := hide hsh
  have HRN : Hid (∀ r ∈ rows, r.length = m) := (fun r hr => by have := HSH.out.2.2.2 r hr; omega)
  have hm8 : m ≤ 8 := by omega
  have K4 := hide (mdet_any w3 _ rows m 1500 (HI.out.below HB2.out) HSH.out HLZ.out (by decide))
  clear hsh K3 hl' hlong hrows
  go_wp2_with fail
  refine K4.out.mono ?_
  rintro e w4 ⟨ho4, hb4⟩
  have ho4 := det_out HLZ.out hb4.size ho4
  have HB4 := hide (HB2.out.trans (hb4.mono HB2.out.size))
  have hK4 : w.heap.size ≤ w3.heap.size := HB2.out.size
  clear K4
  rcases ho4 with ⟨hbig, hne, rfl⟩ | ⟨hbig, r4, rfl, hf4⟩
  · as_aux_lemma =>
    have hba := hAl w4 (.cells #[.bool false, .slice none 0 0] 30)
    have hn4 := heap_alloc_new w4 (.cells #[.bool false, .slice none 0 0] 30)
    have hb5 := HB4.out.trans (hba.mono HB4.out.size)
    have K5 := hide (mrank_any _ _ rows m 1500 (HI.out.below hb5) HSH.out (by decide))
    have HB5 := hide hb5
    have HN4 := hide hn4
    have HNE := hide hne
    clear hb4 hbig hne hba hn4 hb5
    go_wp2_with fail
    refine K5.out.mono ?_
    rintro e w6 ⟨⟨R, Q, hE, rfl⟩, hb6⟩
    have hQ : Q.length = m := by
      have h1 := hE.len
      have h2 := rank_dt hE HLZ.out
      have h3 := HNE.out
      by_cases h : Q.length < m
      · exact absurd (h2.1 h) h3
      · omega
    have hn6 := (hb6.block _ (lt_of_heap HN4.out)).trans HN4.out
    obtain ⟨_, y0, y1, _, _⟩ := two_cells hn6
    have HB6 := hide (HB5.out.trans (hb6.mono HB5.out.size))
    have K6 := hide (signF w6 0 _ 0 (frw_zero (K := 0) w6 (Nat.zero_le _)).is (by omega))
    rw [hQ]
    clear K5 hE hb6 hn6 hQ
    go_wp2_with fail
    refine K6.out.mono ?_
    rintro e w7 ⟨rfl, hb7⟩
    have HB7 := hide (HB6.out.trans (hb7.mono HB6.out.size))
    clear hb7 K6 y0 y1
    go_wp2
    refine bodyPost_ret (v := _) (by simp [results, Try.results4, go_sem]; try rfl) rfl ⟨rfl, HB7.out⟩
  · obtain ⟨ng4, a4, m4, c4, rfl⟩ := hf4.agg
    have hba := hAl w4 (.cells #[.bool ng4, .slice a4 m4 c4] 30)
    have hn4 := heap_alloc_new w4 (.cells #[.bool ng4, .slice a4 m4 c4] 30)
    have hb5 := HB4.out.trans (hba.mono HB4.out.size)
    have K5 := hide (mrank_any _ _ rows m 1500 (HI.out.below hb5) HSH.out (by decide))
    have HB5 := hide hb5
    have HN4 := hide hn4
    have HF4 := hide ((hf4.ru (Ru.of_below hba)).low hK4)
    have HBG := hide hbig
    have hfd : w.heap.size ≤ w4.heap.size := HB4.out.size
    clear hb4 hbig hba hn4 hb5 hf4
    go_wp2_with fail
    refine K5.out.mono ?_
    rintro e w6 ⟨⟨R, Q, hE, rfl⟩, hb6⟩
    have HQ := hide (And.intro hE.len (rank_dt hE HLZ.out))
    have hn6 := (hb6.block _ (lt_of_heap HN4.out)).trans HN4.out
    have HN6 := hide hn6
    have HF6 := hide (HF4.out.ru (Ru.of_below hb6))
    obtain ⟨hl6, y0, y1, _, _⟩ := two_cells hn6
    have HB6 := hide (HB5.out.trans (hb6.mono HB5.out.size))
    have K6 := hide (signF w6 (dt m rows) _ (lg 1500) HF6.out.is (by decide))
    generalize w4.heap.size = fd at *
    obtain ⟨ql, hql⟩ : ∃ q, Q.length = q := ⟨_, rfl⟩
    rw [hql] at HQ ⊢
    clear K5 hE hb6 hn6 hql
    go_upto_region 12 with fail
    go_cut [81] (fun cv wx => cv = .bool false ∧ Below w6.heap.size w6 wx)
    case first =>
      by_cases h0 : dt m rows = 0
      · have hq : ql < m := HQ.out.2.2 h0
        have hq' : (ql : Int) < (m : Int) := by omega
        rw [h0] at K6
        go_wp2_with fail
        refine K6.out.mono ?_
        rintro e w7 ⟨rfl, hb7⟩
        have HB7 := hide hb7
        clear hb7 K6
        go_wp2_with fail
        go_meet
        exact ⟨rfl, HB7.out⟩
      · have hq' : decide ((ql : Int) < (m : Int)) = false := by
          simp
          have h1 := HQ.out.2
          by_cases h : ql < m
          · exact absurd (h1.1 h) h0
          · omega
        have HQN : Hid (decide (ql < m) = false) := (show decide (ql < m) = false by simp at hq'; simp; omega)
        have hs : (Int.sign (dt m rows) == 0) = false := by
          rw [beq_eq_false_iff_ne]
          exact fun e => h0 (Int.sign_eq_zero_iff_zero.1 e)
        generalize Int.sign (dt m rows) = sd at *
        clear h0
        go_wp2_with fail
        refine K6.out.mono ?_
        rintro e w7 ⟨rfl, hb7⟩
        have HB7 := hide hb7
        clear hb7 K6
        go_wp2_with fail
        go_meet
        exact ⟨by rw [HQN.out], HB7.out⟩
    case rest =>
      obtain ⟨hc81, hb7⟩ := hcut
      subst hc81
      have HB7 := hide (HB6.out.trans (hb7.mono HB6.out.size))
      have hn7 := (hb7.block _ (lt_of_heap HN6.out)).trans HN6.out
      have HD := hide (And.intro hn7 (HF6.out.ru (Ru.of_below hb7)))
      obtain ⟨hl7, z0, z1, _, _⟩ := two_cells hn7
      clear hb7 y0 y1 K6 HN6 HF6 hn7 hl6
      obtain ⟨w7, rfl⟩ : ∃ x, x = wc := ⟨_, rfl⟩
      by_cases hm2 : m < 2
      · as_aux_lemma =>
        have hm2' : (m : Int) < 2 := by omega
        by_cases hmz : m = 0
        · subst hmz
          have hd1 := dt_none rows HLZ.out
          rw [hd1] at HD
          replace HD := hide (And.intro HD.out.1 HD.out.2.out)
          go_upto_region 15 with fail
          go_cut [6] (fun cv wx => cv = .bool true ∧ Below w7.heap.size w7 wx)
          case first =>
            refine cut_abs [84, 85, 86, 87, 88, 89, 90, 91, 92, 93, 94, 95, 96, 97, 98, 99, 100, 101, 102, 103, 104, 6] [Eqs (.int .i64 0), Eqs (.bool true), Eqs (.bool true), (OutW (1) (lg 1500)), (OutW 1 2), Eqs (.bool true), Eqs (.bool true), Eqs (.bool true), Eqs (undef), Eqs (undef), Eqs (undef), Eqs (undef), Eqs (undef), Eqs (undef), Eqs (undef), Eqs (undef), Eqs (undef), Eqs (undef), Eqs (undef), Eqs (undef), Eqs ((.bool true)), Eqs ((.bool true))] (by assumption) (by assumption) rfl (by decide) (by as_aux_lemma => kernel_rfl) (by as_aux_lemma => kernel_rfl) ⟨Eqs.mono _, Eqs.mono _, Eqs.mono _, (Mono.of4 (OutW.mono4 _ _)), (Mono.of4 (OutW.mono4 _ _)), Eqs.mono _, Eqs.mono _, Eqs.mono _, Eqs.mono _, Eqs.mono _, Eqs.mono _, Eqs.mono _, Eqs.mono _, Eqs.mono _, Eqs.mono _, Eqs.mono _, Eqs.mono _, Eqs.mono _, Eqs.mono _, Eqs.mono _, Eqs.mono _, Eqs.mono _, trivial⟩ ?_ ?_
            · exact ⟨⟨rfl, fun a_ w_ _ hB hR hD => op_mv ((hR 7 rfl).trans (eval_list rfl))⟩,
                ⟨rfl, fun a_ w_ _ hB hR hD => op_eqlk (show a_.eval (.tmp 84) = .int .i64 0 from hD 0 rfl)⟩,
                ⟨rfl, fun a_ w_ _ hB hR hD => op_mv (show a_.eval (.tmp 85) = .bool true from hD 1 rfl)⟩,
                ⟨rfl, fun a_ w_ _ hB hR hD => ⟨by decide, fun _ => op_ldP ((hR 8 rfl).trans (eval_list rfl)) ((hB.block _ (lt_of_heap HD.out.1)).trans HD.out.1) (Mono.of4 (OutW.mono4 _ _) _ _ _ hB HD.out.2), fun hne => absurd (hD 2 rfl) hne⟩⟩,
                ⟨rfl, fun a_ w_ _ hB hR hD => ⟨by decide, fun _ => op_of (by decide) (by decide), fun hne => absurd (hD 2 rfl) hne⟩⟩,
                ⟨rfl, fun a_ w_ _ hB hR hD => ⟨by decide, fun _ => op_same (show (OutW (1) (lg 1500)) (a_.eval (.tmp 87)) w_ from hD 3 rfl) (show (OutW 1 2) (a_.eval (.tmp 88)) w_ from hD 4 rfl) rfl, fun hne => absurd (hD 2 rfl) hne⟩⟩,
                ⟨rfl, fun a_ w_ _ hB hR hD => op_pickb (show a_.eval (.tmp 86) = .bool true from hD 2 rfl) (show a_.eval (.tmp 89) = .bool true from hD 5 rfl)⟩,
                ⟨rfl, fun a_ w_ _ hB hR hD => op_mv (show a_.eval (.tmp 90) = .bool true from hD 6 rfl)⟩,
                ⟨rfl, fun a_ w_ _ hB hR hD => ⟨by decide, fun hw => absurd ((show _ = _ from hD 7 rfl).symm.trans hw) (by simp), fun _ => rfl⟩⟩,
                ⟨rfl, fun a_ w_ _ hB hR hD => ⟨by decide, fun hw => absurd ((show _ = _ from hD 7 rfl).symm.trans hw) (by simp), fun _ => rfl⟩⟩,
                ⟨rfl, fun a_ w_ _ hB hR hD => ⟨by decide, fun hw => absurd ((show _ = _ from hD 7 rfl).symm.trans hw) (by simp), fun _ => rfl⟩⟩,
                ⟨rfl, fun a_ w_ _ hB hR hD => ⟨by decide, fun hw => absurd ((show _ = _ from hD 10 rfl).symm.trans hw) (by simp [undef]), fun _ => rfl⟩⟩,
                ⟨rfl, fun a_ w_ _ hB hR hD => ⟨by decide, fun hw => absurd ((show _ = _ from hD 10 rfl).symm.trans hw) (by simp [undef]), fun _ => rfl⟩⟩,
                ⟨rfl, fun a_ w_ _ hB hR hD => ⟨by decide, fun hw => absurd ((show _ = _ from hD 10 rfl).symm.trans hw) (by simp [undef]), fun _ => rfl⟩⟩,
                ⟨rfl, fun a_ w_ _ hB hR hD => ⟨by decide, fun hw => absurd ((show _ = _ from hD 10 rfl).symm.trans hw) (by simp [undef]), fun _ => rfl⟩⟩,
                ⟨rfl, fun a_ w_ _ hB hR hD => ⟨by decide, fun hw => absurd ((show _ = _ from hD 10 rfl).symm.trans hw) (by simp [undef]), fun _ => rfl⟩⟩,
                ⟨rfl, fun a_ w_ _ hB hR hD => ⟨by decide, fun hw => absurd ((show _ = _ from hD 10 rfl).symm.trans hw) (by simp [undef]), fun _ => rfl⟩⟩,
                ⟨rfl, fun a_ w_ _ hB hR hD => ⟨by decide, fun hw => absurd ((show _ = _ from hD 10 rfl).symm.trans hw) (by simp [undef]), fun _ => rfl⟩⟩,
                ⟨rfl, fun a_ w_ _ hB hR hD => ⟨by decide, fun hw => absurd ((show _ = _ from hD 10 rfl).symm.trans hw) (by simp [undef]), fun _ => rfl⟩⟩,
                ⟨rfl, fun a_ w_ _ hB hR hD => ⟨by decide, fun hw => absurd ((show _ = _ from hD 7 rfl).symm.trans hw) (by simp), fun _ => rfl⟩⟩,
                ⟨rfl, fun a_ w_ _ hB hR hD => op_pickb (show a_.eval (.tmp 91) = .bool true from hD 7 rfl) rfl⟩,
                ⟨rfl, fun a_ w_ _ hB hR hD => op_assign (show a_.eval (.tmp 104) = (.bool true) from hD 20 rfl)⟩,
                trivial⟩
            · intro a' w' hn' hd' hB' hR' hP'
              (repeat apply Exists.intro)
              refine ⟨?rel, act_fit hn' hd' hR' ?fit⟩
              case fit => repeat' (first | exact trivial | refine ⟨(by first | exact .inl ⟨rfl, rfl⟩ | exact .inr rfl), ?_⟩)
              case rel => exact ⟨(show _ = _ from hP' 21 (by decide)), hB'⟩
          case rest =>
            obtain ⟨hc6, hb8⟩ := hcut
            subst hc6
            have HB8 := hide (HB7.out.trans (hb8.mono HB7.out.size))
            clear hb8
            go_wp2
            refine bodyPost_ret (v := _) (by simp [results, Try.results4, go_sem]; try rfl) rfl ⟨rfl, HB8.out⟩
        · have hm1 : m = 1 := by omega
          subst hm1
          obtain ⟨r, hr⟩ : ∃ r, rows = [r] := List.length_eq_one_iff.1 HLZ.out
          have hrl := HRN.out r (by rw [hr]; simp)
          obtain ⟨xz, hxz⟩ : ∃ x, r[0]? = some x := ⟨_, List.getElem?_eq_getElem (by omega)⟩
          have hd1 := dt_one hr hxz
          rw [hd1] at HD
          replace HD := hide (And.intro HD.out.1 HD.out.2.out)
          obtain ⟨b0, o0, ux, rfl, h0l, x0, hx⟩ := (HI.out.below HB7.out).cell (i := 0) (z := r) (by rw [hr]; rfl)
          obtain ⟨ax, cx, rfl, _⟩ := hx.parts
          rw [hrl] at x0 hx
          obtain ⟨bx, ox, ngx, axx, mxx, cxx, rfl, hxl, p0, p1, hxw⟩ := hx.cell hxz
          have HXW := hide hxw
          clear hx hxw
          go_upto_region 15 with fail
          go_cut [6] (fun cv wx => cv = .bool true ∧ Below w7.heap.size w7 wx)
          case first =>
            refine cut_abs [84, 85, 86, 87, 88, 89, 90, 91, 92, 93, 94, 95, 96, 97, 98, 99, 100, 101, 102, 103, 104, 6] [Eqs (.int .i64 1), Eqs (.bool false), Eqs (.bool false), Eqs (undef), Eqs (undef), Eqs (undef), Eqs ((.bool false)), Eqs ((.bool false)), Eqs (.int .i64 1), Eqs (.bool true), Eqs (.bool true), (OutW (xz) (lg 1500)), Eqs (.slice (some ⟨b0, o0, none⟩) 1 c0), Eqs (.pointer (some ⟨b0, o0 + 0, none⟩)), Eqs (.slice (some ⟨bx, ox, none⟩) 1 cx), Eqs (.pointer (some ⟨bx, ox + 0 * 2, none⟩)), (IsW xz 1500), (OutW xz 1500), Eqs (.bool true), Eqs (.bool true), Eqs (.bool true), Eqs (.bool true)] (by assumption) (by assumption) rfl (by decide) (by as_aux_lemma => kernel_rfl) (by as_aux_lemma => kernel_rfl) ⟨Eqs.mono _, Eqs.mono _, Eqs.mono _, Eqs.mono _, Eqs.mono _, Eqs.mono _, Eqs.mono _, Eqs.mono _, Eqs.mono _, Eqs.mono _, Eqs.mono _, (Mono.of4 (OutW.mono4 _ _)), Eqs.mono _, Eqs.mono _, Eqs.mono _, Eqs.mono _, (Mono.of4 (IsW.mono4 _ _)), (Mono.of4 (OutW.mono4 _ _)), Eqs.mono _, Eqs.mono _, Eqs.mono _, Eqs.mono _, trivial⟩ ?_ ?_
            · exact ⟨⟨rfl, fun a_ w_ _ hB hR hD => op_mv ((hR 7 rfl).trans (eval_list rfl))⟩,
                ⟨rfl, fun a_ w_ _ hB hR hD => op_eqlk (show a_.eval (.tmp 84) = .int .i64 1 from hD 0 rfl)⟩,
                ⟨rfl, fun a_ w_ _ hB hR hD => op_mv (show a_.eval (.tmp 85) = .bool false from hD 1 rfl)⟩,
                ⟨rfl, fun a_ w_ _ hB hR hD => ⟨by decide, fun hw => absurd ((show _ = _ from hD 2 rfl).symm.trans hw) (by simp), fun _ => rfl⟩⟩,
                ⟨rfl, fun a_ w_ _ hB hR hD => ⟨by decide, fun hw => absurd ((show _ = _ from hD 2 rfl).symm.trans hw) (by simp), fun _ => rfl⟩⟩,
                ⟨rfl, fun a_ w_ _ hB hR hD => ⟨by decide, fun hw => absurd ((show _ = _ from hD 2 rfl).symm.trans hw) (by simp), fun _ => rfl⟩⟩,
                ⟨rfl, fun a_ w_ _ hB hR hD => op_pickb (show a_.eval (.tmp 86) = .bool false from hD 2 rfl) rfl⟩,
                ⟨rfl, fun a_ w_ _ hB hR hD => op_mv (show a_.eval (.tmp 90) = (.bool false) from hD 6 rfl)⟩,
                ⟨rfl, fun a_ w_ _ hB hR hD => ⟨by decide, fun _ => op_mv ((hR 7 rfl).trans (eval_list rfl)), fun hne => absurd (hD 7 rfl) hne⟩⟩,
                ⟨rfl, fun a_ w_ _ hB hR hD => ⟨by decide, fun _ => op_eqlk (show a_.eval (.tmp 92) = .int .i64 1 from hD 8 rfl), fun hne => absurd (hD 7 rfl) hne⟩⟩,
                ⟨rfl, fun a_ w_ _ hB hR hD => ⟨by decide, fun _ => op_mv (show a_.eval (.tmp 93) = .bool true from hD 9 rfl), fun hne => absurd (hD 7 rfl) hne⟩⟩,
                ⟨rfl, fun a_ w_ _ hB hR hD => ⟨by decide, fun _ => op_ldP ((hR 8 rfl).trans (eval_list rfl)) ((hB.block _ (lt_of_heap HD.out.1)).trans HD.out.1) (Mono.of4 (OutW.mono4 _ _) _ _ _ hB HD.out.2), fun hne => absurd (hD 10 rfl) hne⟩⟩,
                ⟨rfl, fun a_ w_ _ hB hR hD => ⟨by decide, fun _ => op_mv ((hR 0 rfl).trans (eval_list rfl)), fun hne => absurd (hD 10 rfl) hne⟩⟩,
                ⟨rfl, fun a_ w_ _ hB hR hD => ⟨by decide, fun _ => op_idxM0 (show a_.eval (.tmp 96) = .slice (some ⟨b0, o0, none⟩) 1 c0 from hD 12 rfl) rfl (by omega), fun hne => absurd (hD 10 rfl) hne⟩⟩,
                ⟨rfl, fun a_ w_ _ hB hR hD => ⟨by decide, fun _ => op_ldsW (show a_.eval (.tmp 97) = .pointer (some ⟨b0, o0 + 0, none⟩) from hD 13 rfl) ((hB.cell (p := ⟨b0, o0 + 0, none⟩) h0l).trans x0), fun hne => absurd (hD 10 rfl) hne⟩⟩,
                ⟨rfl, fun a_ w_ _ hB hR hD => ⟨by decide, fun _ => op_idxr0 (show a_.eval (.tmp 98) = .slice (some ⟨bx, ox, none⟩) 1 cx from hD 14 rfl) rfl (by omega), fun hne => absurd (hD 10 rfl) hne⟩⟩,
                ⟨rfl, fun a_ w_ _ hB hR hD => ⟨by decide, fun _ => op_ldc (show a_.eval (.tmp 99) = .pointer (some ⟨bx, ox + 0 * 2, none⟩) from hD 15 rfl) ((hB.cell (p := ⟨bx, ox + 0 * 2, none⟩) hxl).trans p0) ((hB.cell (p := ⟨bx, ox + 0 * 2 + 1, none⟩) hxl).trans p1) (Mono.of4 (IsW.mono4 _ _) _ _ _ hB HXW.out), fun hne => absurd (hD 10 rfl) hne⟩⟩,
                ⟨rfl, fun a_ w_ _ hB hR hD => ⟨by decide, fun _ => op_wtrim (show (IsW xz 1500) (a_.eval (.tmp 100)) w_ from hD 16 rfl) (by omega), fun hne => absurd (hD 10 rfl) hne⟩⟩,
                ⟨rfl, fun a_ w_ _ hB hR hD => ⟨by decide, fun _ => op_same (show (OutW (xz) (lg 1500)) (a_.eval (.tmp 95)) w_ from hD 11 rfl) (show (OutW xz 1500) (a_.eval (.tmp 101)) w_ from hD 17 rfl) rfl, fun hne => absurd (hD 10 rfl) hne⟩⟩,
                ⟨rfl, fun a_ w_ _ hB hR hD => ⟨by decide, fun _ => op_pickb (show a_.eval (.tmp 94) = .bool true from hD 10 rfl) (show a_.eval (.tmp 102) = .bool true from hD 18 rfl), fun hne => absurd (hD 7 rfl) hne⟩⟩,
                ⟨rfl, fun a_ w_ _ hB hR hD => op_pickb (show a_.eval (.tmp 91) = (.bool false) from hD 7 rfl) (show a_.eval (.tmp 103) = .bool true from hD 19 rfl)⟩,
                ⟨rfl, fun a_ w_ _ hB hR hD => op_assign (show a_.eval (.tmp 104) = .bool true from hD 20 rfl)⟩,
                trivial⟩
            · intro a' w' hn' hd' hB' hR' hP'
              (repeat apply Exists.intro)
              refine ⟨?rel, act_fit hn' hd' hR' ?fit⟩
              case fit => repeat' (first | exact trivial | refine ⟨(by first | exact .inl ⟨rfl, rfl⟩ | exact .inr rfl), ?_⟩)
              case rel => exact ⟨(show _ = _ from hP' 21 (by decide)), hB'⟩
          case rest =>
            obtain ⟨hc6, hb8⟩ := hcut
            subst hc6
            have HB8 := hide (HB7.out.trans (hb8.mono HB7.out.size))
            clear hb8
            go_wp2
            refine bodyPost_ret (v := _) (by simp [results, Try.results4, go_sem]; try rfl) rfl ⟨rfl, HB8.out⟩
      · have hm2' : decide ((m : Int) < 2) = false := by simp; omega
        obtain ⟨vs, hce, hvr⟩ := HI.out
        have hrm : rows.length = m := HLZ.out
        rw [hrm] at hce
        obtain ⟨ao', cp', hv', hcc1, hcc2, hvl, hcells⟩ := hce
        simp only [Value.slice.injEq, true_and] at hv'
        obtain ⟨rfl, rfl⟩ := hv'
        rw [Nat.mul_one] at hvl
        obtain ⟨b0, o0, rfl, h0l, hcell⟩ : ∃ b off, a0 = some ⟨b, off, none⟩ ∧ b < w.heap.size ∧ ∀ j u, vs[j]? = some u → w.cell? ⟨b, off + j, none⟩ = some u := by
          rcases hcells with h | h
          · omega
          · exact h
        have HVR := hide hvr
        have HCE := hide hcell
        have HVL := hide hvl
        obtain ⟨i, hpv, him⟩ := pick_v which m (by omega)
        have hmz : ((m : Int) == 0) = false := by rw [beq_eq_false_iff_ne]; omega
        have hw1 : IntKind.i64.wrap ((i : Int) + 1) = (i : Int) + 1 := by rw [IntKind.wrap_i64]; omega
        have hrm2 : Int.tmod ((i : Int) + 1) (m : Int) = (((i + 1) % m : Nat) : Int) := by rw [← tmod_nat, Int.natCast_add]; rfl
        have hi2 : (i + 1) % m < m := Nat.mod_lt _ (by omega)
        have hne2 : i ≠ (i + 1) % m := by
          by_cases h : i + 1 = m
          · rw [h, Nat.mod_self]; omega
          · rw [Nat.mod_eq_of_lt (by omega)]; omega
        generalize (i + 1) % m = i2 at *
        obtain ⟨ck, hck⟩ : ∃ c, Int.tmod by_ 1000 = c := ⟨_, rfl⟩
        have hckb : ck.natAbs < 1000 := by rw [← hck, Int.natAbs_tmod]; exact Nat.mod_lt _ (by decide)
        have K7 := hide (wofF w7 ck (by omega) (by omega))
        clear hcells hvr hcell
        go_wp2_with fail
        refine K7.out.mono ?_
        rintro e w8 ⟨r8, rfl, hf8, hb8⟩
        obtain ⟨ng8, a8, m8, c8, rfl⟩ := hf8.agg
        have hba := hAl w8 (.cells #[.bool ng8, .slice a8 m8 c8] 30)
        have hn8 := heap_alloc_new w8 (.cells #[.bool ng8, .slice a8 m8 c8] 30)
        have hb78 := hb8.trans (hba.mono hb8.size)
        have hD8 := (hb78.block _ (lt_of_heap HD.out.1)).trans HD.out.1
        have hF8 := HD.out.2.ru (Ru.of_below hb78)
        have hfc : w.heap.size ≤ w8.heap.size := Nat.le_trans HB7.out.size hb8.size
        have hC8 := (hf8.ru (Ru.of_below hba)).low HB7.out.size
        have HB9 := hide (HB7.out.trans (hb78.mono HB7.out.size))
        clear K7
        go_upto_region 19 with fail
        generalize hfcn : w8.heap.size = fc at *
        generalize w8.alloc (.cells #[.bool ng8, .slice a8 m8 c8] 30) = w9 at *
        have H9 := hide (And.intro hD8 (And.intro hF8 (And.intro hn8 hC8)))
        clear hf8 hb8 hba hn8 hb78 hD8 hF8 hC8 z0 z1 hl7 hfcn
        obtain ⟨iW, hiW, hzW0, hzW1, hzW2⟩ := info_parts infoSz
        have hnews : ∀ j u, vs[j]? = some u → w9.cell? ((⟨b0, o0, none⟩ : Addr).add j) = some u := fun j u hu => by
          rw [show (⟨b0, o0, none⟩ : Addr).add j = ⟨b0, o0 + j, none⟩ by unfold Addr.add; split <;> simp_all]
          exact (HB9.out.cell (p := ⟨b0, o0 + j, none⟩) h0l).trans (HCE.out j u hu)
        have hones : ∀ u ∈ vs, u.oneCell' = true := fun u hu => by
          obtain ⟨k, hk⟩ := List.getElem?_of_mem hu
          have hkl := (List.getElem?_eq_some_iff.1 hk).1
          obtain ⟨ua, uc, rfl, _⟩ := (HVR.out k u _ hk (rowAt_get (rows := rows) (i := k) (by omega))).parts
          rfl
        go_wp2_with (at_builtin; refine wpList_append_own _ rfl (.const (.slice none 0 0)) (.tmp 116) 22 rfl w9.heap.size 27 iW (.slice none 0 0) 1 24 Try.underlying22 hiW hzW0 hzW1 hzW2 rfl (by decide) _ _ _ rfl (World.ownsRow_nil _ _ _ _) ⟨b0, o0, none⟩ m c0 vs rfl (by omega) hnews hones ?c3 ?c4 ?c5 ?_)
        case c3 => unfold maxLen; omega
        case c4 => omega
        case c5 => exact Nat.le_refl _
        intro v10 w10 hown hgrow _
        obtain ⟨gT, capT, hv, hKg, hgl, hOL, _⟩ := OL.of hown (by omega)
        subst hv
        have hbl : Below w9.heap.size w9 w10 := (Below.refl _ _).grown hgrow (Nat.le_refl _) (fun k hk => by cases hk)
        obtain ⟨ux, hux⟩ : ∃ u, vs[i]? = some u := ⟨_, List.getElem?_eq_getElem (by omega)⟩
        obtain ⟨uy, huy⟩ : ∃ u, vs[i2]? = some u := ⟨_, List.getElem?_eq_getElem (by omega)⟩
        obtain ⟨ax, cx, hxe, _⟩ := (HVR.out i ux _ hux (rowAt_get (by omega))).parts
        obtain ⟨ay, cy, hye, _⟩ := (HVR.out i2 uy _ huy (rowAt_get (by omega))).parts
        rw [HRN.out _ (rowAt_mem (by omega))] at hxe hye
        subst hxe hye
        have HBX := hide (HB9.out.trans (hbl.mono HB9.out.size))
        have x10 := (HBX.out.cell (p := ⟨b0, o0 + i, none⟩) h0l).trans (HCE.out i _ hux)
        have y10 := (HBX.out.cell (p := ⟨b0, o0 + i2, none⟩) h0l).trans (HCE.out i2 _ huy)
        obtain ⟨_, t1, t1f⟩ := hOL.cell hux
        obtain ⟨_, t2, t2f⟩ := hOL.cell huy
        have hs9 := HB9.out.size
        have hgb : gT ≠ b0 := by omega
        have HOT := hide hOL
        have HGT := hide (And.intro hKg hgl)
        have HBL := hide hbl
        clear hown hgrow hbl hOL hnews
        go_upto_region 22 with fail
        have hOT := (HOT.out.put (i := i) (by omega) (.slice ay m cy)).put (i := i2) (by simp; omega) (.slice ax m cx)
        have hT11 : Tch gT w10 ((w10.setCell ⟨gT, i, none⟩ (.slice ay m cy)).setCell ⟨gT, i2, none⟩ (.slice ax m cx)) := ⟨rfl, rfl, rfl, by simp [World.setCell], fun k _ hn => (heap_setCell_other _ ⟨gT, i2, none⟩ k _ hn).trans (heap_setCell_other _ ⟨gT, i, none⟩ k _ hn)⟩
        have hb11 : Below w.heap.size w ((w10.setCell ⟨gT, i, none⟩ (.slice ay m cy)).setCell ⟨gT, i2, none⟩ (.slice ax m cx)) := (HBX.out.setCell (by show w.heap.size ≤ gT; omega) _).setCell (by show w.heap.size ≤ gT; omega) _
        have hgT11 : gT < ((w10.setCell ⟨gT, i, none⟩ (.slice ay m cy)).setCell ⟨gT, i2, none⟩ (.slice ax m cx)).heap.size := Nat.lt_of_lt_of_le hgl hT11.size
        obtain ⟨curT, hgT⟩ := HOT.out.hp
        obtain ⟨q1, q2, q3, q4⟩ := H9.out
        have hfcT : fc ≠ gT := by have := lt_of_heap q3; omega
        have hgTw : w.heap.size ≤ gT := by omega
        have hfd11 := hT11.blk ((HBL.out.block _ (lt_of_heap q1)).trans q1) (ne_of_type hgT ((HBL.out.block _ (lt_of_heap q1)).trans q1) (by decide))
        have hFd11 := (q2.ru (Ru.of_below HBL.out)).tch hT11 hgT (by decide)
        have hfc11 := hT11.blk ((HBL.out.block _ (lt_of_heap q3)).trans q3) (ne_of_type hgT ((HBL.out.block _ (lt_of_heap q3)).trans q3) (by decide))
        have hFc11 := (q4.ru (Ru.of_below HBL.out)).tch hT11 hgT (by decide)
        generalize (w10.setCell ⟨gT, i, none⟩ (.slice ay m cy)).setCell ⟨gT, i2, none⟩ (.slice ax m cx) = w11 at *
        have HBw11 := hide hb11
        have H11 := hide (And.intro hfd11 (And.intro hFd11 (And.intro hfc11 (And.intro hFc11 (And.intro hOT hgT11)))))
        clear q1 q2 q3 q4 hfd11 hFd11 hfc11 hFc11 hOT hT11 hb11 hgT11 hgT HOT HBL HBX x10 y10 t1 t1f t2 t2f H9 hKg hgl
        have hnews : ∀ j u, vs[j]? = some u → w11.cell? ((⟨b0, o0, none⟩ : Addr).add j) = some u := fun j u hu => by
          rw [show (⟨b0, o0, none⟩ : Addr).add j = ⟨b0, o0 + j, none⟩ by unfold Addr.add; split <;> simp_all]
          exact (HBw11.out.cell (p := ⟨b0, o0 + j, none⟩) h0l).trans (HCE.out j u hu)
        go_wp2_with (at_builtin; refine wpList_append_own _ rfl (.const (.slice none 0 0)) (.tmp 132) 22 rfl w11.heap.size 27 iW (.slice none 0 0) 1 24 Try.underlying22 hiW hzW0 hzW1 hzW2 rfl (by decide) _ _ _ rfl (World.ownsRow_nil _ _ _ _) ⟨b0, o0, none⟩ m c0 vs rfl (by omega) hnews hones ?c3 ?c4 ?c5 ?_)
        case c3 => unfold maxLen; omega
        case c4 => omega
        case c5 => exact Nat.le_refl _
        intro v_gS w12 hown hgrow _
        obtain ⟨gS, capS, hv, hKg, hgl, hOL, _⟩ := OL.of hown (by omega)
        subst hv
        have hblw12 : Below w11.heap.size w11 w12 := (Below.refl _ _).grown hgrow (Nat.le_refl _) (fun k hk => by cases hk)
        have HOgS := hide hOL
        have HGgS := hide (And.intro hKg hgl)
        have HBw12 := hide (HBw11.out.trans (hblw12.mono HBw11.out.size))
        have HBlw12 := hide hblw12
        clear hown hgrow hOL hnews hKg hgl hblw12
        have hnews : ∀ j u, vs[j]? = some u → w12.cell? ((⟨b0, o0, none⟩ : Addr).add j) = some u := fun j u hu => by
          rw [show (⟨b0, o0, none⟩ : Addr).add j = ⟨b0, o0 + j, none⟩ by unfold Addr.add; split <;> simp_all]
          exact (HBw12.out.cell (p := ⟨b0, o0 + j, none⟩) h0l).trans (HCE.out j u hu)
        go_wp2_with (at_builtin; refine wpList_append_own _ rfl (.const (.slice none 0 0)) (.tmp 134) 22 rfl w12.heap.size 27 iW (.slice none 0 0) 1 24 Try.underlying22 hiW hzW0 hzW1 hzW2 rfl (by decide) _ _ _ rfl (World.ownsRow_nil _ _ _ _) ⟨b0, o0, none⟩ m c0 vs rfl (by omega) hnews hones ?c3 ?c4 ?c5 ?_)
        case c3 => unfold maxLen; omega
        case c4 => omega
        case c5 => exact Nat.le_refl _
        intro v_gA w13 hown hgrow _
        obtain ⟨gA, capA, hv, hKg, hgl, hOL, _⟩ := OL.of hown (by omega)
        subst hv
        have hblw13 : Below w12.heap.size w12 w13 := (Below.refl _ _).grown hgrow (Nat.le_refl _) (fun k hk => by cases hk)
        have HOgA := hide hOL
        have HGgA := hide (And.intro hKg hgl)
        have HBw13 := hide (HBw12.out.trans (hblw13.mono HBw12.out.size))
        have HBlw13 := hide hblw13
        clear hown hgrow hOL hnews hKg hgl hblw13
        have hgSA : gS ≠ gA := by have := HGgS.out; have := HGgA.out; omega
        have hOS13 := HOgS.out.keep (HBlw13.out.block gS HGgS.out.2)
        obtain ⟨_, s1, s1f⟩ := hOS13.cell hux
        obtain ⟨_, a1, a1f⟩ := HOgA.out.cell hux
        have HOS13 := hide hOS13
        clear hOS13
        go_upto_region 26 with fail
        obtain ⟨q1, q2, q3, q4, q5, q6⟩ := H11.out
        have hbl13 := HBlw12.out.trans (HBlw13.out.mono HBlw12.out.size)
        have hr1 := fun k hk => hbl13.block k hk
        have hTU0 : TuS ⟨i, fd, fc, gT, gS, gA, capT, capS, capA, ng4, a4, m4, c4, ng8, a8, m8, c8⟩ w w13.heap.size (dt m rows) ck vs ((vs.set i (.slice ay m cy)).set i2 (.slice ax m cx)) (.slice ax m cx) (.slice none 0 0) (.slice ax m cx) (.slice none 0 0) [] [] w13 := by
          have e1 : vs.set i (.slice ax m cx) = vs := by
            apply List.ext_getElem?
            intro k
            by_cases hk : i = k
            · subst hk; rw [List.getElem?_set_self (by omega), hux]
            · rw [List.getElem?_set_ne hk]
          have g1 := HGgS.out
          have g2 := HGgA.out
          have l1 := lt_of_heap q1
          have l3 := lt_of_heap q3
          have s1 := HBlw12.out.size
          have s2 := HBlw13.out.size
          have s0 := HBw11.out.size
          refine ⟨⟨by show fd < _; omega, by show fc < _; omega, by show gT < _; omega, by show gS < _; omega, by show gA < _; omega⟩, ⟨by show _ ≤ gS; omega, by show _ ≤ gA; omega, by show gT ≠ gS; omega, by show gT ≠ gA; omega, hgSA⟩, by omega, Nat.le_refl _, HBw13.out, (hr1 _ l1).trans q1, q2.ru (Ru.of_below hbl13), (hr1 _ l3).trans q3, q4.ru (Ru.of_below hbl13), q5.keep (hr1 _ q6), by show OL w13 gS capS (vs.set i _); rw [e1]; exact HOS13.out, by show OL w13 gA capA (vs.set i _); rw [e1]; exact HOgA.out, rwo_nil _ _, rwo_nil _ _, apt_nil _⟩
        have hTU1 := (hTU0.putS (by show i < _; omega)).putA (by show i < _; omega)
        obtain ⟨B, hB⟩ : ∃ B, w13.heap.size = B := ⟨_, rfl⟩
        rw [hB] at hTU1
        obtain ⟨vsT, hvsT⟩ : ∃ l, (vs.set i (.slice ay m cy)).set i2 (.slice ax m cx) = l := ⟨_, rfl⟩
        rw [hvsT] at hTU1
        have HTU1 := hide hTU1
        have HVST := hide hvsT
        clear hTU0 hTU1 q1 q2 q3 q4 q5 q6 hbl13 hr1 hB hvsT s1 s1f a1 a1f hgb hs9 hfc hfd
        go_wp2_with fail
        go_loopw [18] (fun cv wx => ∃ (c : Nat) (e1 e2 : List WE) (rv sv : Value), cv = .int .i64 c ∧ c ≤ m ∧ TuS ⟨i, fd, fc, gT, gS, gA, capT, capS, capA, ng4, a4, m4, c4, ng8, a8, m8, c8⟩ w B (dt m rows) ck vs vsT rv rv sv sv e1 e2 wx ∧ e1.map WE.z = gRow (fun c => fnR (rowAt rows i) c * ck) c ∧ (∀ e ∈ e1, e.zs.length ≤ 1503) ∧ e2.map WE.z = gRow (fun c => fnR (rowAt rows i) c + ck * fnR (rowAt rows i2) c) c ∧ (∀ e ∈ e2, e.zs.length ≤ 1503)) (fun cv _ => m - (intOf cv).toNat)
        case atStart => exact ⟨0, [], [], _, _, rfl, Nat.zero_le _, HTU1.out, rfl, fun e he => (by cases he), rfl, fun e he => (by cases he)⟩
        case round =>
          obtain ⟨c, e1, e2, rv, sv, rfl, hcm, hTU, hz1, hl1, hz2, hl2⟩ := hrel
          have he1 : e1.length = c := by have := congrArg List.length hz1; simpa [gRow_len] using this
          have he2 : e2.length = c := by have := congrArg List.length hz2; simpa [gRow_len] using this
          obtain ⟨ra, rc, hrv, hq1⟩ := Cl.own hTU.r1.own
          obtain ⟨sa, sc, hsv, hq2⟩ := Cl.own hTU.r2.own
          clear hq1 hq2
          rw [he1] at hrv
          rw [he2] at hsv
          subst hrv hsv
          have HTU := hide hTU
          have HZ1 := hide (And.intro hz1 hl1)
          have HZ2 := hide (And.intro hz2 hl2)
          have HE := hide (And.intro he1 he2)
          have HE1 : Hid (e1.length ≤ 1000000) := (show e1.length ≤ 1000000 by omega)
          have HE2 : Hid (e2.length ≤ 1000000) := (show e2.length ≤ 1000000 by omega)
          clear hTU hz1 hl1 hz2 hl2 he1 he2
          by_cases hlc : c < m
          · as_aux_lemma =>
            have hlc' : (c : Int) < (m : Int) := by omega
            obtain ⟨xz, hxz⟩ : ∃ z, fnR (rowAt rows i) c = z := ⟨_, rfl⟩
            obtain ⟨yz, hyz⟩ : ∃ z, fnR (rowAt rows i2) c = z := ⟨_, rfl⟩
            have gx : (rowAt rows i)[c]? = some xz := by rw [← hxz]; exact fnR_get (by rw [HRN.out _ (rowAt_mem (by omega))]; exact hlc)
            have gy : (rowAt rows i2)[c]? = some yz := by rw [← hyz]; exact fnR_get (by rw [HRN.out _ (rowAt_mem (by omega))]; exact hlc)
            obtain ⟨bx, ox, ngx, axx, mxx, cxx, rfl, hxl, p0, p1, hxw⟩ := (HVR.out i _ _ hux (rowAt_get (by omega))).cell gx
            obtain ⟨bq, oy, ngy, ayy, myy, cyy, rfl, hyl, q0, q1, hyw⟩ := (HVR.out i2 _ _ huy (rowAt_get (by omega))).cell gy
            have HPX := hide hxw
            have HPY := hide hyw
            have HZB1 : Hid (((xz * ck).natAbs : Int) < pw 1503) := by
              show ((xz * ck).natAbs : Int) < pw 1503
              have h1 := isw_lt hxw
              have h3 : pw 1503 = 4294967296 * (4294967296 * (4294967296 * pw 1500)) := rfl
              rw [Int.natAbs_mul]
              have : xz.natAbs * ck.natAbs ≤ xz.natAbs * 1000 := Nat.mul_le_mul_left _ (by omega)
              rw [Int.natCast_mul]
              have h4 : ((xz.natAbs : Int) * (ck.natAbs : Int)) ≤ (xz.natAbs : Int) * 1000 := by exact_mod_cast this
              omega
            have HZB2 : Hid (((xz + ck * yz).natAbs : Int) < pw 1503) := by
              show ((xz + ck * yz).natAbs : Int) < pw 1503
              have h1 := isw_lt hxw
              have h2 := isw_lt hyw
              have h3 : pw 1503 = 4294967296 * (4294967296 * (4294967296 * pw 1500)) := rfl
              have h5 : (ck * yz).natAbs ≤ 1000 * yz.natAbs := by rw [Int.natAbs_mul]; exact Nat.mul_le_mul_right _ (by omega)
              omega
            have hf1 : xz * ck = (fun c => fnR (rowAt rows i) c * ck) c := by show _ = fnR (rowAt rows i) c * ck; rw [hxz]
            have hf2 : xz + ck * yz = (fun c => fnR (rowAt rows i) c + ck * fnR (rowAt rows i2) c) c := by show _ = fnR (rowAt rows i) c + ck * fnR (rowAt rows i2) c; rw [hxz, hyz]
            have HF12 := hide (And.intro hf1 hf2)
            clear hxw hyw gx gy hxz hyz hf1 hf2
            have hs1 : ∀ {vs : List Value} {u : Value}, i < vs.length → (vs.set i u)[i]? = some u := fun h => List.getElem?_set_self h
            have s1r : wr.cell? ⟨gS, 0 + i, none⟩ = some (.slice ra c rc) := by rw [Nat.zero_add]; exact (HTU.out.oS.cell (hs1 (by show i < vs.length; omega))).2.1
            obtain ⟨cT, hcT⟩ := HTU.out.oT.hp
            obtain ⟨g, cg, Tg, hgu, hgh, hgty, hgo⟩ := HTU.out.r1.spare hcT
            have hwr := HTU.out.bel.size
            have hbelw := HTU.out.bel
            have hfcw := HTU.out.fc
            have hgw := lt_of_heap hgh
            have hlt := HTU.out.lt
            have hne := HTU.out.ne
            have hszB := HTU.out.sz
            have hwB := HTU.out.wB
            simp only at hlt hne hgo
            have hwg : w.heap.size ≤ g := by rcases hgo with e | e <;> omega
            have hnS : gS ≠ g := by rcases hgo with e | e <;> omega
            have hnA : gA ≠ g := by rcases hgo with e | e <;> omega
            have hnc : fc ≠ g := by rcases hgo with e | e <;> omega
            have hn0 : b0 ≠ g := by omega
            have hnx : bx ≠ g := by omega
            have hny : bq ≠ g := by omega
            have hlS : gS < wr.heap.size := by omega
            have hlA : gA < wr.heap.size := by omega
            have hlfc : fc < wr.heap.size := by omega
            have hl0 : b0 < wr.heap.size := by omega
            have hlx : bx < wr.heap.size := by omega
            have hly : bq < wr.heap.size := by omega
            have x0r := (hbelw.cell (p := ⟨b0, o0 + i, none⟩) h0l).trans (HCE.out i _ hux)
            have y0r := (hbelw.cell (p := ⟨b0, o0 + i2, none⟩) h0l).trans (HCE.out i2 _ huy)
            have p0r := (hbelw.cell (p := ⟨bx, ox + c * 2, none⟩) hxl).trans p0
            have p1r := (hbelw.cell (p := ⟨bx, ox + c * 2 + 1, none⟩) hxl).trans p1
            have q0r := (hbelw.cell (p := ⟨bq, oy + c * 2, none⟩) hyl).trans q0
            have q1r := (hbelw.cell (p := ⟨bq, oy + c * 2 + 1, none⟩) hyl).trans q1
            obtain ⟨_, d0r, d1r, _, _⟩ := two_cells HTU.out.bc
            clear hs1 hcT
            go_upto_region 29 with fail
            refine region_tail3 g 16 17 [147, 148, 149, 150, 151, 152, 153, 154, 155, 156, 157, 158, 159, 160, 161, 162, 163] [Eqs (.slice (some ⟨gS, 0, none⟩) m capS), Eqs (.int .i64 (i : Int)), Eqs (.slice (some ⟨gS, 0, none⟩) m capS), Eqs (.int .i64 (i : Int)), Eqs (.pointer (some ⟨gS, 0 + i, none⟩)), Eqs (.slice ra c rc), Eqs (.slice (some ⟨b0, o0, none⟩) m c0), Eqs (.int .i64 (i : Int)), Eqs (.pointer (some ⟨b0, o0 + i, none⟩)), Eqs (.slice (some ⟨bx, ox, none⟩) m cx), Eqs (.int .i64 (c : Int)), Eqs (.pointer (some ⟨bx, ox + c * 2, none⟩)), Eqs (.agg #[.bool ngx, .slice axx mxx cxx]), Eqs (.agg #[.bool ng8, .slice a8 m8 c8]), (FrW wr.heap.size (xz * ck) (1500 + 2)), (OneK wr.heap.size (xz * ck) (1500 + 2)), (ApS ⟨i, fd, fc, gT, gS, gA, capT, capS, capA, ng4, a4, m4, c4, ng8, a8, m8, c8⟩ w B (dt m rows) ck vs vsT (.slice ra c rc) (.slice sa c sc) (.slice sa c sc) e1 e2 (xz * ck))] hgw rfl rfl (by decide) (by as_aux_lemma => kernel_rfl) (by as_aux_lemma => kernel_rfl) (by decide) (by as_aux_lemma => kernel_rfl) ⟨Eqs.mono _, Eqs.mono _, Eqs.mono _, Eqs.mono _, Eqs.mono _, Eqs.mono _, Eqs.mono _, Eqs.mono _, Eqs.mono _, Eqs.mono _, Eqs.mono _, Eqs.mono _, Eqs.mono _, Eqs.mono _, (Mono.of4 (FrW.mono4 _ _ _)), (OneK.mono _ _ _), (ApS.mono _ _ _ _ _ _ _ _ _ _ _ _ _), trivial⟩ ?_ ?_ ?_
            · intro j_ hj_ v_ w1_ w2_ ht_ hp_
              match j_, hj_ with
              | 0, _ => exact hp_
              | 1, _ => exact hp_
              | 2, _ => exact hp_
              | 3, _ => exact hp_
              | 4, _ => exact hp_
              | 5, _ => exact hp_
              | 6, _ => exact hp_
              | 7, _ => exact hp_
              | 8, _ => exact hp_
              | 9, _ => exact hp_
              | 10, _ => exact hp_
              | 11, _ => exact hp_
              | 12, _ => exact hp_
              | 13, _ => exact hp_
              | 14, _ => exact FrW.tlt hp_ hgw ht_
              | 15, _ => exact OneK.tlt hp_ hgw ht_
              | 16, hj_ => exact absurd rfl hj_
              | j_ + 17, _ => exact hp_
            · exact ⟨⟨rfl, rfl, fun a_ w_ _ hB hR hD => ⟨fun _ => op_mv ((hR 16 rfl).trans (eval_list rfl)), fun h => absurd h (by decide)⟩⟩,
                  ⟨rfl, rfl, fun a_ w_ _ hB hR hD => ⟨fun _ => op_mv ((hR 12 rfl).trans (eval_list rfl)), fun h => absurd h (by decide)⟩⟩,
                  ⟨rfl, rfl, fun a_ w_ _ hB hR hD => ⟨fun _ => op_mv ((hR 16 rfl).trans (eval_list rfl)), fun h => absurd h (by decide)⟩⟩,
                  ⟨rfl, rfl, fun a_ w_ _ hB hR hD => ⟨fun _ => op_mv ((hR 12 rfl).trans (eval_list rfl)), fun h => absurd h (by decide)⟩⟩,
                  ⟨rfl, rfl, fun a_ w_ _ hB hR hD => ⟨fun _ => op_idxM (show a_.eval (.tmp 149) = .slice (some ⟨gS, 0, none⟩) m capS from hD 2 rfl) rfl (show a_.eval (.tmp 150) = .int .i64 (i : Int) from hD 3 rfl) him, fun h => absurd h (by decide)⟩⟩,
                  ⟨rfl, rfl, fun a_ w_ _ hB hR hD => ⟨fun _ => op_ldsW (show a_.eval (.tmp 151) = .pointer (some ⟨gS, 0 + i, none⟩) from hD 4 rfl) ((hB.cell (p := ⟨gS, 0 + i, none⟩) hlS hnS).trans s1r), fun h => absurd h (by decide)⟩⟩,
                  ⟨rfl, rfl, fun a_ w_ _ hB hR hD => ⟨fun _ => op_mv ((hR 0 rfl).trans (eval_list rfl)), fun h => absurd h (by decide)⟩⟩,
                  ⟨rfl, rfl, fun a_ w_ _ hB hR hD => ⟨fun _ => op_mv ((hR 12 rfl).trans (eval_list rfl)), fun h => absurd h (by decide)⟩⟩,
                  ⟨rfl, rfl, fun a_ w_ _ hB hR hD => ⟨fun _ => op_idxM (show a_.eval (.tmp 153) = .slice (some ⟨b0, o0, none⟩) m c0 from hD 6 rfl) rfl (show a_.eval (.tmp 154) = .int .i64 (i : Int) from hD 7 rfl) him, fun h => absurd h (by decide)⟩⟩,
                  ⟨rfl, rfl, fun a_ w_ _ hB hR hD => ⟨fun _ => op_ldsW (show a_.eval (.tmp 155) = .pointer (some ⟨b0, o0 + i, none⟩) from hD 8 rfl) ((hB.cell (p := ⟨b0, o0 + i, none⟩) hl0 hn0).trans x0r), fun h => absurd h (by decide)⟩⟩,
                  ⟨rfl, rfl, fun a_ w_ _ hB hR hD => ⟨fun _ => op_mv ((hR 18 rfl).trans (eval_list rfl)), fun h => absurd h (by decide)⟩⟩,
                  ⟨rfl, rfl, fun a_ w_ _ hB hR hD => ⟨fun _ => op_idxr (show a_.eval (.tmp 156) = .slice (some ⟨bx, ox, none⟩) m cx from hD 9 rfl) rfl (show a_.eval (.tmp 157) = .int .i64 (c : Int) from hD 10 rfl) hlc, fun h => absurd h (by decide)⟩⟩,
                  ⟨rfl, rfl, fun a_ w_ _ hB hR hD => ⟨fun _ => op_ldc (p := Eqs _) (show a_.eval (.tmp 158) = .pointer (some ⟨bx, ox + c * 2, none⟩) from hD 11 rfl) ((hB.cell (p := ⟨bx, ox + c * 2, none⟩) hlx hnx).trans p0r) ((hB.cell (p := ⟨bx, ox + c * 2 + 1, none⟩) hlx hnx).trans p1r) rfl, fun h => absurd h (by decide)⟩⟩,
                  ⟨rfl, rfl, fun a_ w_ _ hB hR hD => ⟨fun _ => op_ldc (p := Eqs _) ((hR 14 rfl).trans (eval_list rfl)) ((hB.cell (p := ⟨fc, 0, none⟩) hlfc hnc).trans d0r) ((hB.cell (p := ⟨fc, 0 + 1, none⟩) hlfc hnc).trans d1r) rfl, fun h => absurd h (by decide)⟩⟩,
                  ⟨rfl, rfl, fun a_ w_ _ hB hR hD => ⟨fun _ => op_mulv (show a_.eval (.tmp 159) = .agg #[.bool ngx, .slice axx mxx cxx] from hD 12 rfl) (show a_.eval (.tmp 160) = .agg #[.bool ng8, .slice a8 m8 c8] from hD 13 rfl) (HPX.out.ru (Ru.of_below (hbelw.trans (hB.below hwr hwg)))) (FrW.is (hfcw.tch hB hgh hgty)) (by omega) (by omega) hB.size, fun h => absurd h (by decide)⟩⟩,
                  ⟨rfl, rfl, fun a_ w_ _ hB hR hD => ⟨fun _ => op_bslK (show (FrW wr.heap.size (xz * ck) (1500 + 2)) (a_.eval (.tmp 161)) w_ from hD 14 rfl) hB.size, fun h => absurd h (by decide)⟩⟩,
                  ⟨rfl, rfl, fun a_ w_ _ hB hR hD => ⟨fun h => absurd rfl h, fun _ hI => op_apS (show a_.eval (.tmp 152) = .slice ra c rc from hD 5 rfl) (show (OneK wr.heap.size (xz * ck) (1500 + 2)) (a_.eval (.tmp 162)) w_ from hD 15 rfl) (HTU.out.below (tch_bel hB hI)) hgu HTU.out.sz HE1.out HZB1.out⟩⟩,
                  trivial⟩
            · intro a' w' hn' hd' hB' hR' hP'
              have e147 : a'.eval (.tmp 147) = .slice (some ⟨gS, 0, none⟩) m capS := hP' 0 (by decide)
              have e148 : a'.eval (.tmp 148) = .int .i64 (i : Int) := hP' 1 (by decide)
              have e149 : a'.eval (.tmp 149) = .slice (some ⟨gS, 0, none⟩) m capS := hP' 2 (by decide)
              have e150 : a'.eval (.tmp 150) = .int .i64 (i : Int) := hP' 3 (by decide)
              have e151 : a'.eval (.tmp 151) = .pointer (some ⟨gS, 0 + i, none⟩) := hP' 4 (by decide)
              have e152 : a'.eval (.tmp 152) = .slice ra c rc := hP' 5 (by decide)
              have e153 : a'.eval (.tmp 153) = .slice (some ⟨b0, o0, none⟩) m c0 := hP' 6 (by decide)
              have e154 : a'.eval (.tmp 154) = .int .i64 (i : Int) := hP' 7 (by decide)
              have e155 : a'.eval (.tmp 155) = .pointer (some ⟨b0, o0 + i, none⟩) := hP' 8 (by decide)
              have e156 : a'.eval (.tmp 156) = .slice (some ⟨bx, ox, none⟩) m cx := hP' 9 (by decide)
              have e157 : a'.eval (.tmp 157) = .int .i64 (c : Int) := hP' 10 (by decide)
              have e158 : a'.eval (.tmp 158) = .pointer (some ⟨bx, ox + c * 2, none⟩) := hP' 11 (by decide)
              have e159 : a'.eval (.tmp 159) = .agg #[.bool ngx, .slice axx mxx cxx] := hP' 12 (by decide)
              have e160 : a'.eval (.tmp 160) = .agg #[.bool ng8, .slice a8 m8 c8] := hP' 13 (by decide)
              obtain ⟨u161, e161⟩ : ∃ u, a'.eval (.tmp 161) = u := ⟨_, rfl⟩
              obtain ⟨u162, e162⟩ : ∃ u, a'.eval (.tmp 162) = u := ⟨_, rfl⟩
              obtain ⟨u163, e163⟩ : ∃ u, a'.eval (.tmp 163) = u := ⟨_, rfl⟩
              have hT : (ApS ⟨i, fd, fc, gT, gS, gA, capT, capS, capA, ng4, a4, m4, c4, ng8, a8, m8, c8⟩ w B (dt m rows) ck vs vsT (.slice ra c rc) (.slice sa c sc) (.slice sa c sc) e1 e2 (xz * ck)) (a'.eval (.tmp 163)) w' := hP' 16 (by decide)
              rw [e163] at hT
              refine tail_fit hn' hd' hR' (.s16 rfl <| .s16 rfl <| .s16 rfl <| .s16 rfl <| .s16 rfl <| .s16 rfl <| .s16 rfl <| .s16 rfl <| .s16 rfl <| .same rfl <| .same rfl <| .same rfl <| .new e147 <| .new e148 <| .new e149 <| .new e150 <| .new e151 <| .new e152 <| .new e153 <| .new e154 <| .new e155 <| .new e156 <| .new e157 <| .new e158 <| .new e159 <| .new e160 <| .new e161 <| .new e162 <| .new e163 <| .s16 rfl <| .s16 rfl <| .s16 rfl <| .s16 rfl <| .s16 rfl <| .same rfl <| .same rfl <| .same rfl <| .nil) ?_
              clear e147 e148 e149 e150 e151 e152 e153 e154 e155 e156 e157 e158 e159 e160 e161 e162 e163
              obtain ⟨eN, hTU3, hez, hel⟩ := hT
              have hz3 : (e1 ++ [eN]).map WE.z = gRow (fun c => fnR (rowAt rows i) c * ck) (c + 1) := by rw [gRow_succ, List.map_append, HZ1.out.1, List.map_cons, List.map_nil, hez, HF12.out.1]
              have hl3 : ∀ e ∈ e1 ++ [eN], e.zs.length ≤ 1503 := by
                intro e he
                rcases List.mem_append.1 he with he | he
                · exact HZ1.out.2 e he
                · obtain rfl := List.mem_singleton.1 he
                  exact hel
              have hle1 : (e1 ++ [eN]).length = c + 1 := by rw [List.length_append, HE.out.1]; rfl
              generalize e1 ++ [eN] = e1p at *
              obtain ⟨ra2, rc2, hrv2, hq1⟩ := Cl.own hTU3.r1.own
              rw [hle1] at hrv2
              clear hq1
              subst hrv2
              have hss : ∀ {vs : List Value} {u : Value}, i < vs.length → (vs.set i u)[i]? = some u := fun h => List.getElem?_set_self h
              obtain ⟨hgl3, t1, t1f⟩ := hTU3.oS.cell (hss (by show i < vs.length; omega))
              have hTU5 := hTU3.putS (by show i < vs.length; omega)
              have HTU5 := hide hTU5
              have HZ3 := hide (And.intro hz3 hl3)
              clear hB' hR' hP' hn' hd' hTU3 hTU5 hez hel hz3 hl3 hle1 hss hwr hbelw hfcw hgw hlt hne hszB hwB hwg hnS hnA hnc hn0 hnx hny hlS hlA hlfc hl0 hlx hly x0r y0r p0r p1r q0r q1r d0r d1r hgu hgh hgty hgo s1r
              go_upto_region 30 with fail
              generalize hw5 : w'.setCell ⟨gS, i, none⟩ (.slice ra2 (c + 1) rc2) = w5 at *
              have hs1 : ∀ {vs : List Value} {u : Value}, i < vs.length → (vs.set i u)[i]? = some u := fun h => List.getElem?_set_self h
              have a1r : w5.cell? ⟨gA, 0 + i, none⟩ = some (.slice sa c sc) := by rw [Nat.zero_add]; exact (HTU5.out.oA.cell (hs1 (by show i < vs.length; omega))).2.1
              obtain ⟨cT, hcT⟩ := HTU5.out.oT.hp
              obtain ⟨g, cg, Tg, hgu, hgh, hgty, hgo⟩ := HTU5.out.r2.spare hcT
              have hwr := HTU5.out.bel.size
              have hbelw := HTU5.out.bel
              have hfcw := HTU5.out.fc
              have hgw := lt_of_heap hgh
              have hlt := HTU5.out.lt
              have hne := HTU5.out.ne
              have hszB := HTU5.out.sz
              have hwB := HTU5.out.wB
              simp only at hlt hne hgo
              have hwg : w.heap.size ≤ g := by rcases hgo with e | e <;> omega
              have hnS : gS ≠ g := by rcases hgo with e | e <;> omega
              have hnA : gA ≠ g := by rcases hgo with e | e <;> omega
              have hnc : fc ≠ g := by rcases hgo with e | e <;> omega
              have hn0 : b0 ≠ g := by omega
              have hnx : bx ≠ g := by omega
              have hny : bq ≠ g := by omega
              have hlS : gS < w5.heap.size := by omega
              have hlA : gA < w5.heap.size := by omega
              have hlfc : fc < w5.heap.size := by omega
              have hl0 : b0 < w5.heap.size := by omega
              have hlx : bx < w5.heap.size := by omega
              have hly : bq < w5.heap.size := by omega
              have x0r := (hbelw.cell (p := ⟨b0, o0 + i, none⟩) h0l).trans (HCE.out i _ hux)
              have y0r := (hbelw.cell (p := ⟨b0, o0 + i2, none⟩) h0l).trans (HCE.out i2 _ huy)
              have p0r := (hbelw.cell (p := ⟨bx, ox + c * 2, none⟩) hxl).trans p0
              have p1r := (hbelw.cell (p := ⟨bx, ox + c * 2 + 1, none⟩) hxl).trans p1
              have q0r := (hbelw.cell (p := ⟨bq, oy + c * 2, none⟩) hyl).trans q0
              have q1r := (hbelw.cell (p := ⟨bq, oy + c * 2 + 1, none⟩) hyl).trans q1
              obtain ⟨_, d0r, d1r, _, _⟩ := two_cells HTU5.out.bc
              clear hs1 hcT hw5 hgl3 t1 t1f
              refine region_tail3 g 24 25 [165, 166, 167, 168, 169, 170, 171, 172, 173, 174, 175, 176, 177, 178, 179, 180, 181, 182, 183, 184, 185, 186, 187, 188, 189] [Eqs (.slice (some ⟨gA, 0, none⟩) m capA), Eqs (.int .i64 (i : Int)), Eqs (.slice (some ⟨gA, 0, none⟩) m capA), Eqs (.int .i64 (i : Int)), Eqs (.pointer (some ⟨gA, 0 + i, none⟩)), Eqs (.slice sa c sc), Eqs (.slice (some ⟨b0, o0, none⟩) m c0), Eqs (.int .i64 (i : Int)), Eqs (.pointer (some ⟨b0, o0 + i, none⟩)), Eqs (.slice (some ⟨bx, ox, none⟩) m cx), Eqs (.int .i64 (c : Int)), Eqs (.pointer (some ⟨bx, ox + c * 2, none⟩)), Eqs (.agg #[.bool ngx, .slice axx mxx cxx]), Eqs (.agg #[.bool ng8, .slice a8 m8 c8]), Eqs (.slice (some ⟨b0, o0, none⟩) m c0), Eqs (.int .i64 (i2 : Int)), Eqs (.pointer (some ⟨b0, o0 + i2, none⟩)), Eqs (.slice (some ⟨bq, oy, none⟩) m cy), Eqs (.int .i64 (c : Int)), Eqs (.pointer (some ⟨bq, oy + c * 2, none⟩)), Eqs (.agg #[.bool ngy, .slice ayy myy cyy]), (FrW w5.heap.size (ck * yz) (2 + 1500)), (FrW w5.heap.size (xz + ck * yz) (1500 + (2 + 1500) + 1)), (OneK w5.heap.size (xz + ck * yz) (1500 + (2 + 1500) + 1)), (ApA ⟨i, fd, fc, gT, gS, gA, capT, capS, capA, ng4, a4, m4, c4, ng8, a8, m8, c8⟩ w B (dt m rows) ck vs vsT (.slice ra2 (c + 1) rc2) (.slice ra2 (c + 1) rc2) (.slice sa c sc) e1p e2 (xz + ck * yz))] hgw rfl rfl (by decide) (by as_aux_lemma => kernel_rfl) (by as_aux_lemma => kernel_rfl) (by decide) (by as_aux_lemma => kernel_rfl) ⟨Eqs.mono _, Eqs.mono _, Eqs.mono _, Eqs.mono _, Eqs.mono _, Eqs.mono _, Eqs.mono _, Eqs.mono _, Eqs.mono _, Eqs.mono _, Eqs.mono _, Eqs.mono _, Eqs.mono _, Eqs.mono _, Eqs.mono _, Eqs.mono _, Eqs.mono _, Eqs.mono _, Eqs.mono _, Eqs.mono _, Eqs.mono _, (Mono.of4 (FrW.mono4 _ _ _)), (Mono.of4 (FrW.mono4 _ _ _)), (OneK.mono _ _ _), (ApA.mono _ _ _ _ _ _ _ _ _ _ _ _ _), trivial⟩ ?_ ?_ ?_
              · intro j_ hj_ v_ w1_ w2_ ht_ hp_
                match j_, hj_ with
                | 0, _ => exact hp_
                | 1, _ => exact hp_
                | 2, _ => exact hp_
                | 3, _ => exact hp_
                | 4, _ => exact hp_
                | 5, _ => exact hp_
                | 6, _ => exact hp_
                | 7, _ => exact hp_
                | 8, _ => exact hp_
                | 9, _ => exact hp_
                | 10, _ => exact hp_
                | 11, _ => exact hp_
                | 12, _ => exact hp_
                | 13, _ => exact hp_
                | 14, _ => exact hp_
                | 15, _ => exact hp_
                | 16, _ => exact hp_
                | 17, _ => exact hp_
                | 18, _ => exact hp_
                | 19, _ => exact hp_
                | 20, _ => exact hp_
                | 21, _ => exact FrW.tlt hp_ hgw ht_
                | 22, _ => exact FrW.tlt hp_ hgw ht_
                | 23, _ => exact OneK.tlt hp_ hgw ht_
                | 24, hj_ => exact absurd rfl hj_
                | j_ + 25, _ => exact hp_
              · exact ⟨⟨rfl, rfl, fun a_ w_ _ hB hR hD => ⟨fun _ => op_mv ((hR 17 rfl).trans (eval_list rfl)), fun h => absurd h (by decide)⟩⟩,
                    ⟨rfl, rfl, fun a_ w_ _ hB hR hD => ⟨fun _ => op_mv ((hR 12 rfl).trans (eval_list rfl)), fun h => absurd h (by decide)⟩⟩,
                    ⟨rfl, rfl, fun a_ w_ _ hB hR hD => ⟨fun _ => op_mv ((hR 17 rfl).trans (eval_list rfl)), fun h => absurd h (by decide)⟩⟩,
                    ⟨rfl, rfl, fun a_ w_ _ hB hR hD => ⟨fun _ => op_mv ((hR 12 rfl).trans (eval_list rfl)), fun h => absurd h (by decide)⟩⟩,
                    ⟨rfl, rfl, fun a_ w_ _ hB hR hD => ⟨fun _ => op_idxM (show a_.eval (.tmp 167) = .slice (some ⟨gA, 0, none⟩) m capA from hD 2 rfl) rfl (show a_.eval (.tmp 168) = .int .i64 (i : Int) from hD 3 rfl) him, fun h => absurd h (by decide)⟩⟩,
                    ⟨rfl, rfl, fun a_ w_ _ hB hR hD => ⟨fun _ => op_ldsW (show a_.eval (.tmp 169) = .pointer (some ⟨gA, 0 + i, none⟩) from hD 4 rfl) ((hB.cell (p := ⟨gA, 0 + i, none⟩) hlA hnA).trans a1r), fun h => absurd h (by decide)⟩⟩,
                    ⟨rfl, rfl, fun a_ w_ _ hB hR hD => ⟨fun _ => op_mv ((hR 0 rfl).trans (eval_list rfl)), fun h => absurd h (by decide)⟩⟩,
                    ⟨rfl, rfl, fun a_ w_ _ hB hR hD => ⟨fun _ => op_mv ((hR 12 rfl).trans (eval_list rfl)), fun h => absurd h (by decide)⟩⟩,
                    ⟨rfl, rfl, fun a_ w_ _ hB hR hD => ⟨fun _ => op_idxM (show a_.eval (.tmp 171) = .slice (some ⟨b0, o0, none⟩) m c0 from hD 6 rfl) rfl (show a_.eval (.tmp 172) = .int .i64 (i : Int) from hD 7 rfl) him, fun h => absurd h (by decide)⟩⟩,
                    ⟨rfl, rfl, fun a_ w_ _ hB hR hD => ⟨fun _ => op_ldsW (show a_.eval (.tmp 173) = .pointer (some ⟨b0, o0 + i, none⟩) from hD 8 rfl) ((hB.cell (p := ⟨b0, o0 + i, none⟩) hl0 hn0).trans x0r), fun h => absurd h (by decide)⟩⟩,
                    ⟨rfl, rfl, fun a_ w_ _ hB hR hD => ⟨fun _ => op_mv ((hR 18 rfl).trans (eval_list rfl)), fun h => absurd h (by decide)⟩⟩,
                    ⟨rfl, rfl, fun a_ w_ _ hB hR hD => ⟨fun _ => op_idxr (show a_.eval (.tmp 174) = .slice (some ⟨bx, ox, none⟩) m cx from hD 9 rfl) rfl (show a_.eval (.tmp 175) = .int .i64 (c : Int) from hD 10 rfl) hlc, fun h => absurd h (by decide)⟩⟩,
                    ⟨rfl, rfl, fun a_ w_ _ hB hR hD => ⟨fun _ => op_ldc (p := Eqs _) (show a_.eval (.tmp 176) = .pointer (some ⟨bx, ox + c * 2, none⟩) from hD 11 rfl) ((hB.cell (p := ⟨bx, ox + c * 2, none⟩) hlx hnx).trans p0r) ((hB.cell (p := ⟨bx, ox + c * 2 + 1, none⟩) hlx hnx).trans p1r) rfl, fun h => absurd h (by decide)⟩⟩,
                    ⟨rfl, rfl, fun a_ w_ _ hB hR hD => ⟨fun _ => op_ldc (p := Eqs _) ((hR 14 rfl).trans (eval_list rfl)) ((hB.cell (p := ⟨fc, 0, none⟩) hlfc hnc).trans d0r) ((hB.cell (p := ⟨fc, 0 + 1, none⟩) hlfc hnc).trans d1r) rfl, fun h => absurd h (by decide)⟩⟩,
                    ⟨rfl, rfl, fun a_ w_ _ hB hR hD => ⟨fun _ => op_mv ((hR 0 rfl).trans (eval_list rfl)), fun h => absurd h (by decide)⟩⟩,
                    ⟨rfl, rfl, fun a_ w_ _ hB hR hD => ⟨fun _ => op_mv ((hR 13 rfl).trans (eval_list rfl)), fun h => absurd h (by decide)⟩⟩,
                    ⟨rfl, rfl, fun a_ w_ _ hB hR hD => ⟨fun _ => op_idxM (show a_.eval (.tmp 179) = .slice (some ⟨b0, o0, none⟩) m c0 from hD 14 rfl) rfl (show a_.eval (.tmp 180) = .int .i64 (i2 : Int) from hD 15 rfl) hi2, fun h => absurd h (by decide)⟩⟩,
                    ⟨rfl, rfl, fun a_ w_ _ hB hR hD => ⟨fun _ => op_ldsW (show a_.eval (.tmp 181) = .pointer (some ⟨b0, o0 + i2, none⟩) from hD 16 rfl) ((hB.cell (p := ⟨b0, o0 + i2, none⟩) hl0 hn0).trans y0r), fun h => absurd h (by decide)⟩⟩,
                    ⟨rfl, rfl, fun a_ w_ _ hB hR hD => ⟨fun _ => op_mv ((hR 18 rfl).trans (eval_list rfl)), fun h => absurd h (by decide)⟩⟩,
                    ⟨rfl, rfl, fun a_ w_ _ hB hR hD => ⟨fun _ => op_idxr (show a_.eval (.tmp 182) = .slice (some ⟨bq, oy, none⟩) m cy from hD 17 rfl) rfl (show a_.eval (.tmp 183) = .int .i64 (c : Int) from hD 18 rfl) hlc, fun h => absurd h (by decide)⟩⟩,
                    ⟨rfl, rfl, fun a_ w_ _ hB hR hD => ⟨fun _ => op_ldc (p := Eqs _) (show a_.eval (.tmp 184) = .pointer (some ⟨bq, oy + c * 2, none⟩) from hD 19 rfl) ((hB.cell (p := ⟨bq, oy + c * 2, none⟩) hly hny).trans q0r) ((hB.cell (p := ⟨bq, oy + c * 2 + 1, none⟩) hly hny).trans q1r) rfl, fun h => absurd h (by decide)⟩⟩,
                    ⟨rfl, rfl, fun a_ w_ _ hB hR hD => ⟨fun _ => op_mulv (show a_.eval (.tmp 178) = .agg #[.bool ng8, .slice a8 m8 c8] from hD 13 rfl) (show a_.eval (.tmp 185) = .agg #[.bool ngy, .slice ayy myy cyy] from hD 20 rfl) (FrW.is (hfcw.tch hB hgh hgty)) (HPY.out.ru (Ru.of_below (hbelw.trans (hB.below hwr hwg)))) (by omega) (by omega) hB.size, fun h => absurd h (by decide)⟩⟩,
                    ⟨rfl, rfl, fun a_ w_ _ hB hR hD => ⟨fun _ => op_addv (show a_.eval (.tmp 177) = .agg #[.bool ngx, .slice axx mxx cxx] from hD 12 rfl) (HPX.out.ru (Ru.of_below (hbelw.trans (hB.below hwr hwg)))) (FrW.is (show (FrW w5.heap.size (ck * yz) (2 + 1500)) (a_.eval (.tmp 186)) w_ from hD 21 rfl)) (by omega) (by omega) hB.size, fun h => absurd h (by decide)⟩⟩,
                    ⟨rfl, rfl, fun a_ w_ _ hB hR hD => ⟨fun _ => op_bslK (show (FrW w5.heap.size (xz + ck * yz) (1500 + (2 + 1500) + 1)) (a_.eval (.tmp 187)) w_ from hD 22 rfl) hB.size, fun h => absurd h (by decide)⟩⟩,
                    ⟨rfl, rfl, fun a_ w_ _ hB hR hD => ⟨fun h => absurd rfl h, fun _ hI => op_apA (show a_.eval (.tmp 170) = .slice sa c sc from hD 5 rfl) (show (OneK w5.heap.size (xz + ck * yz) (1500 + (2 + 1500) + 1)) (a_.eval (.tmp 188)) w_ from hD 23 rfl) (HTU5.out.below (tch_bel hB hI)) hgu HTU5.out.sz HE2.out HZB2.out⟩⟩,
                    trivial⟩
              · intro a' w' hn' hd' hB' hR' hP'
                have e165 : a'.eval (.tmp 165) = .slice (some ⟨gA, 0, none⟩) m capA := hP' 0 (by decide)
                have e166 : a'.eval (.tmp 166) = .int .i64 (i : Int) := hP' 1 (by decide)
                have e167 : a'.eval (.tmp 167) = .slice (some ⟨gA, 0, none⟩) m capA := hP' 2 (by decide)
                have e168 : a'.eval (.tmp 168) = .int .i64 (i : Int) := hP' 3 (by decide)
                have e169 : a'.eval (.tmp 169) = .pointer (some ⟨gA, 0 + i, none⟩) := hP' 4 (by decide)
                have e170 : a'.eval (.tmp 170) = .slice sa c sc := hP' 5 (by decide)
                have e171 : a'.eval (.tmp 171) = .slice (some ⟨b0, o0, none⟩) m c0 := hP' 6 (by decide)
                have e172 : a'.eval (.tmp 172) = .int .i64 (i : Int) := hP' 7 (by decide)
                have e173 : a'.eval (.tmp 173) = .pointer (some ⟨b0, o0 + i, none⟩) := hP' 8 (by decide)
                have e174 : a'.eval (.tmp 174) = .slice (some ⟨bx, ox, none⟩) m cx := hP' 9 (by decide)
                have e175 : a'.eval (.tmp 175) = .int .i64 (c : Int) := hP' 10 (by decide)
                have e176 : a'.eval (.tmp 176) = .pointer (some ⟨bx, ox + c * 2, none⟩) := hP' 11 (by decide)
                have e177 : a'.eval (.tmp 177) = .agg #[.bool ngx, .slice axx mxx cxx] := hP' 12 (by decide)
                have e178 : a'.eval (.tmp 178) = .agg #[.bool ng8, .slice a8 m8 c8] := hP' 13 (by decide)
                have e179 : a'.eval (.tmp 179) = .slice (some ⟨b0, o0, none⟩) m c0 := hP' 14 (by decide)
                have e180 : a'.eval (.tmp 180) = .int .i64 (i2 : Int) := hP' 15 (by decide)
                have e181 : a'.eval (.tmp 181) = .pointer (some ⟨b0, o0 + i2, none⟩) := hP' 16 (by decide)
                have e182 : a'.eval (.tmp 182) = .slice (some ⟨bq, oy, none⟩) m cy := hP' 17 (by decide)
                have e183 : a'.eval (.tmp 183) = .int .i64 (c : Int) := hP' 18 (by decide)
                have e184 : a'.eval (.tmp 184) = .pointer (some ⟨bq, oy + c * 2, none⟩) := hP' 19 (by decide)
                have e185 : a'.eval (.tmp 185) = .agg #[.bool ngy, .slice ayy myy cyy] := hP' 20 (by decide)
                obtain ⟨u186, e186⟩ : ∃ u, a'.eval (.tmp 186) = u := ⟨_, rfl⟩
                obtain ⟨u187, e187⟩ : ∃ u, a'.eval (.tmp 187) = u := ⟨_, rfl⟩
                obtain ⟨u188, e188⟩ : ∃ u, a'.eval (.tmp 188) = u := ⟨_, rfl⟩
                obtain ⟨u189, e189⟩ : ∃ u, a'.eval (.tmp 189) = u := ⟨_, rfl⟩
                have hT : (ApA ⟨i, fd, fc, gT, gS, gA, capT, capS, capA, ng4, a4, m4, c4, ng8, a8, m8, c8⟩ w B (dt m rows) ck vs vsT (.slice ra2 (c + 1) rc2) (.slice ra2 (c + 1) rc2) (.slice sa c sc) e1p e2 (xz + ck * yz)) (a'.eval (.tmp 189)) w' := hP' 24 (by decide)
                rw [e189] at hT
                refine tail_fit hn' hd' hR' (.s16 rfl <| .s16 rfl <| .s16 rfl <| .s16 rfl <| .s16 rfl <| .s16 rfl <| .s16 rfl <| .s16 rfl <| .s16 rfl <| .s16 rfl <| .s4 rfl <| .same rfl <| .new e165 <| .new e166 <| .new e167 <| .new e168 <| .new e169 <| .new e170 <| .new e171 <| .new e172 <| .new e173 <| .new e174 <| .new e175 <| .new e176 <| .new e177 <| .new e178 <| .new e179 <| .new e180 <| .new e181 <| .new e182 <| .new e183 <| .new e184 <| .new e185 <| .new e186 <| .new e187 <| .new e188 <| .new e189 <| .s16 rfl <| .s16 rfl <| .s16 rfl <| .s4 rfl <| .s4 rfl <| .same rfl <| .nil) ?_
                clear e165 e166 e167 e168 e169 e170 e171 e172 e173 e174 e175 e176 e177 e178 e179 e180 e181 e182 e183 e184 e185 e186 e187 e188 e189
                obtain ⟨eN, hTU7, hez, hel⟩ := hT
                have hz5 : (e2 ++ [eN]).map WE.z = gRow (fun c => fnR (rowAt rows i) c + ck * fnR (rowAt rows i2) c) (c + 1) := by rw [gRow_succ, List.map_append, HZ2.out.1, List.map_cons, List.map_nil, hez, HF12.out.2]
                have hl5 : ∀ e ∈ e2 ++ [eN], e.zs.length ≤ 1503 := by
                  intro e he
                  rcases List.mem_append.1 he with he | he
                  · exact HZ2.out.2 e he
                  · obtain rfl := List.mem_singleton.1 he
                    exact hel
                have hle2 : (e2 ++ [eN]).length = c + 1 := by rw [List.length_append, HE.out.2]; rfl
                generalize e2 ++ [eN] = e2p at *
                obtain ⟨sa2, sc2, hsv2, hq1⟩ := Cl.own hTU7.r2.own
                rw [hle2] at hsv2
                clear hq1
                subst hsv2
                have hss : ∀ {vs : List Value} {u : Value}, i < vs.length → (vs.set i u)[i]? = some u := fun h => List.getElem?_set_self h
                obtain ⟨hgl3, t1, t1f⟩ := hTU7.oA.cell (hss (by show i < vs.length; omega))
                have HTU9 := hide (hTU7.putA (by show i < vs.length; omega))
                have HZ5 := hide (And.intro hz5 hl5)
                clear hB' hR' hP' hn' hd' hTU7 hez hel hz5 hl5 hle2 hss hwr hbelw hfcw hgw hlt hne hszB hwB hwg hnS hnA hnc hn0 hnx hny hlS hlA hlfc hl0 hlx hly x0r y0r p0r p1r q0r q1r d0r d1r hgu hgh hgty hgo a1r
                go_wp2
                go_roundw
                case rel => exact ⟨c + 1, e1p, e2p, _, _, by go_num, by omega, HTU9.out, HZ3.out.1, HZ3.out.2, HZ5.out.1, HZ5.out.2⟩
                case measure => simp [intOf]; omega
          · have hlc' : decide ((c : Int) < (m : Int)) = false := by simp; omega
            have hcm' : m = c := by omega
            subst hcm'
            have hxr := (HVR.out i _ _ hux (rowAt_get (by omega)))
            have hyr := (HVR.out i2 _ _ huy (rowAt_get (by omega)))
            have hlr : rows.length = m := HLZ.out
            have hrx : rows[i]? = some (rowAt rows i) := rowAt_get (by omega)
            have hry : rows[i2]? = some (rowAt rows i2) := rowAt_get (by omega)
            have lx := HRN.out _ (rowAt_mem (rows := rows) (i := i) (by omega))
            have ly := HRN.out _ (rowAt_mem (rows := rows) (i := i2) (by omega))
            have hMT := HTU.out.oT.isM (rows := (rows.set i (rowAt rows i2)).set i2 (rowAt rows i)) (L := 1503) (by rw [← HVST.out]; simp; omega) (by
              rw [← HVST.out]
              exact isrow_set2 (isrow_set HVR.out HTU.out.bel (by omega) (by omega) ((hyr.below HTU.out.bel).wide (by omega))) (by simp; omega) ((hxr.below HTU.out.bel).wide (by omega)))
            rw [List.length_set, List.length_set, HLZ.out] at hMT
            have HST := hide (shaped_set (i := i2) (shaped_set (i := i) HSH.out ly) lx)
            have HTW : Hid (dt m ((rows.set i (rowAt rows i2)).set i2 (rowAt rows i)) = -dt m rows) := (dt_swap hne2 hrx hry)
            have HSS := hide (shaped_set (i := i) HSH.out (gRow_len (fun c => fnR (rowAt rows i) c * ck) m))
            have HSC : Hid (dt m (rows.set i (gRow (fun c => fnR (rowAt rows i) c * ck) m)) = dt m rows * ck) := (show _ = _ by
              rw [dt_scale (a := ck) (by omega) hrx, Int.mul_comm]
              rw [fnR_gRow (fun c hc => by rw [fnR_beyond HRN.out (by omega) hc, Int.zero_mul])]
              funext c
              rw [Int.mul_comm])
            have HSA := hide (shaped_set (i := i) HSH.out (gRow_len (fun c => fnR (rowAt rows i) c + ck * fnR (rowAt rows i2) c) m))
            have HAD : Hid (dt m (rows.set i (gRow (fun c => fnR (rowAt rows i) c + ck * fnR (rowAt rows i2) c) m)) = dt m rows) := (dt_add (a := ck) (by omega) hne2 hrx hry (fnR_gRow (fun c hc => by rw [fnR_beyond HRN.out (by omega) hc, fnR_beyond HRN.out (by omega) hc, Int.mul_zero]; rfl)))
            have K20 := hide (mdet_any wr _ _ m 1503 hMT HST.out (by rw [List.length_set, List.length_set]; exact HLZ.out) (by decide))
            clear hMT hxr hyr hrx hry lx ly
            go_wp2_with fail
            refine K20.out.mono ?_
            rintro e w20 ⟨ho20, hb20⟩
            have ho20 := det_out (by rw [List.length_set, List.length_set]; exact HLZ.out) hb20.size ho20
            rw [HTW.out, big_neg, HBG.out] at ho20
            obtain ⟨hbx, _⟩ | ⟨_, r20, rfl, hf20⟩ := ho20
            · cases hbx
            obtain ⟨ng20, a20, m20, c20, rfl⟩ := hf20.agg
            have hba20 := hAl w20 (.cells #[.bool ng20, .slice a20 m20 c20] 30)
            have hn20 := heap_alloc_new w20 (.cells #[.bool ng20, .slice a20 m20 c20] 30)
            have hb21 := hb20.trans (hba20.mono hb20.size)
            have hTU21 := HTU.out.below hb21
            have hMS := hTU21.oS.isM (rows := rows.set i (gRow (fun c => fnR (rowAt rows i) c * ck) m)) (by show (vs.set i _).length = _; simp; omega) (isrow_set HVR.out hTU21.bel (by omega) (by omega) ⟨e1, hTU21.r1.rw, HZ1.out.1, HZ1.out.2⟩)
            rw [List.length_set, HLZ.out] at hMS
            have K22 := hide (mdet_any _ _ _ m 1503 hMS HSS.out (by rw [List.length_set]; exact HLZ.out) (by decide))
            have HN21 := hide hn20
            have HF21 := hide (hf20.ru (Ru.of_below hba20))
            have HTU21 := hide hTU21
            clear K20 hb20 hf20 hba20 hn20 hb21 hTU21 hMS
            go_upto_region 32 with fail
            generalize w20.heap.size = fx at *
            generalize hw21 : w20.alloc (.cells #[.bool ng20, .slice a20 m20 c20] 30) = w21 at *
            clear hw21
            go_wp2_with fail
            refine K22.out.mono ?_
            rintro e w22 ⟨ho22, hb22⟩
            have ho22 := det_out (by rw [List.length_set]; exact HLZ.out) hb22.size ho22
            clear K22
            rcases ho22 with ⟨hbig22, _, rfl⟩ | ⟨hbig22, r22, rfl, hf22⟩
            · as_aux_lemma =>
              rw [HSC.out] at hbig22
              have HBIG := hide hbig22
              clear hbig22
              have hba22 := hAl w22 (.cells #[.bool false, .slice none 0 0] 30)
              have hn22 := heap_alloc_new w22 (.cells #[.bool false, .slice none 0 0] 30)
              have hF22 := (frw_zero (K := 0) (L := lg 1503) (w22.alloc (.cells #[.bool false, .slice none 0 0] 30)) (Nat.zero_le _)).out
              have hb2123 := hb22.trans (hba22.mono hb22.size)
              have hTU23 := HTU21.out.below hb2123
              have hx23 := (hb2123.block _ (lt_of_heap HN21.out)).trans HN21.out
              have hX23 := HF21.out.ru (Ru.of_below hb2123)
              have hMA := hTU23.oA.isM (rows := rows.set i (gRow (fun c => fnR (rowAt rows i) c + ck * fnR (rowAt rows i2) c) m)) (by show (vs.set i _).length = _; simp; omega) (isrow_set HVR.out hTU23.bel (by omega) (by omega) ⟨e2, hTU23.r2.rw, HZ2.out.1, HZ2.out.2⟩)
              rw [List.length_set, HLZ.out] at hMA
              have K24 := hide (mdet_any _ _ _ m 1503 hMA HSA.out (by rw [List.length_set]; exact HLZ.out) (by decide))
              have HTU23 := hide hTU23
              have HN23 := hide (And.intro hx23 (And.intro hX23 (And.intro hn22 hF22)))
              have hfy : w22.heap.size < (w22.alloc (.cells #[.bool false, .slice none 0 0] 30)).heap.size := lt_of_heap hn22
              clear hba22 hn22 hF22 hb2123 hTU23 hx23 hX23 hMA hb22
              go_upto_region 33 with fail
              generalize w22.heap.size = fy at *
              generalize hw23 : w22.alloc (.cells #[.bool false, .slice none 0 0] 30) = w23 at *
              clear hw23
              go_wp2_with fail
              refine K24.out.mono ?_
              rintro e w24 ⟨ho24, hb24⟩
              have ho24 := det_out (by rw [List.length_set]; exact HLZ.out) hb24.size ho24
              rw [HAD.out, HBG.out] at ho24
              obtain ⟨hbx, _⟩ | ⟨_, r24, rfl, hf24⟩ := ho24
              · cases hbx
              obtain ⟨ng24, a24, m24, c24, rfl⟩ := hf24.agg
              have hba24 := hAl w24 (.cells #[.bool ng24, .slice a24 m24 c24] 30)
              have hn24 := heap_alloc_new w24 (.cells #[.bool ng24, .slice a24 m24 c24] 30)
              have hb25 := hb24.trans (hba24.mono hb24.size)
              obtain ⟨n1, n2, n3, n4⟩ := HN23.out
              have hTU25 := HTU23.out.below hb25
              obtain ⟨_, u0, u1, _, _⟩ := two_cells hTU25.bd
              obtain ⟨_, v0, v1, _, _⟩ := two_cells hTU25.bc
              have K26 := hide (mulF _ (dt m rows) ck _ _ (lg 1500) 2 hTU25.fd.is hTU25.fc.is (by decide) (by decide))
              have HN25 := hide (And.intro ((hb25.block _ (lt_of_heap n1)).trans n1) (And.intro (n2.ru (Ru.of_below hb25)) (And.intro ((hb25.block _ (lt_of_heap n3)).trans n3) (And.intro (n4.ru (Ru.of_below hb25)) (And.intro hn24 (hf24.ru (Ru.of_below hba24)))))))
              have HTU25 := hide hTU25
              clear K24 hb24 hf24 hba24 hn24 hb25 n1 n2 n3 n4 hTU25 hfy
              go_upto_region 34 with fail
              generalize w24.heap.size = fz at *
              generalize hw25 : w24.alloc (.cells #[.bool ng24, .slice a24 m24 c24] 30) = w25 at *
              clear hw25
              go_wp2_with fail
              refine K26.out.mono ?_
              rintro e w26 ⟨r26, rfl, hf26, hb26⟩
              obtain ⟨ng26, a26, m26, c26, rfl⟩ := hf26.agg
              have hba26 := hAl w26 (.cells #[.bool ng26, .slice a26 m26 c26] 30)
              have hn26 := heap_alloc_new w26 (.cells #[.bool ng26, .slice a26 m26 c26] 30)
              have hb27 := hb26.trans (hba26.mono hb26.size)
              have hTU27 := HTU25.out.below hb27
              obtain ⟨n1, n2, n3, n4, n5, n6⟩ := HN25.out
              have HN27x := hide ((hb27.block _ (lt_of_heap n1)).trans n1)
              have HF27x := hide (n2.ru (Ru.of_below hb27))
              have HN27y := hide ((hb27.block _ (lt_of_heap n3)).trans n3)
              have HF27y := hide (n4.ru (Ru.of_below hb27))
              have HN27z := hide ((hb27.block _ (lt_of_heap n5)).trans n5)
              have HF27z := hide (n6.ru (Ru.of_below hb27))
              have HN27m := hide hn26
              have HF27m := hide (hf26.ru (Ru.of_below hba26))
              have HN27d := hide hTU27.bd
              have HF27d := hide hTU27.fd
              have HB27 := hide hTU27.bel
              clear K26 hb26 hf26 hba26 hn26 hb27 hTU27 n1 n2 n3 n4 n5 n6 u0 u1 v0 v1
              go_upto_region 35 with fail
              generalize w26.heap.size = fm at *
              generalize hw27 : w26.alloc (.cells #[.bool ng26, .slice a26 m26 c26] 30) = w27 at *
              clear hw27
              go_cut [6] (fun cv wx => cv = .bool true ∧ Below w27.heap.size w27 wx)
              case first =>
                refine cut_abs [212, 213, 214, 215, 216, 217, 218, 219, 220, 221, 222, 223, 224, 225, 226, 227, 228, 229, 230, 231, 232, 233, 234, 235, 236, 237, 238, 239, 240, 241, 242, 243, 244, 245, 246, 6] [Eqs (.int .i64 0), Eqs (.bool true), Eqs (.bool true), (OutW (-(dt m rows)) (lg 1503)), (OutW (dt m rows) (lg 1500)), (OutW (-(dt m rows)) (lg 1500)), Eqs (.bool true), Eqs (.bool true), Eqs (.bool true), Eqs (.int .i64 0), Eqs (.bool true), Eqs (.bool true), Eqs (.bool true), (OutW (dt m rows) (lg 1503)), (OutW (dt m rows) (lg 1500)), Eqs (.bool true), Eqs (.bool true), Eqs (.bool true), Eqs (.int .i64 2), Eqs (.bool false), Eqs (.bool false), Eqs (undef), Eqs (undef), Eqs (undef), Eqs ((.bool false)), Eqs ((.bool false)), Eqs (.int .i64 2), Eqs (.bool true), Eqs (.bool true), (OutW (dt m rows * ck) (lg 1500 + 2)), (fun v _ => ∃ n : Nat, v = .int .i64 (n : Int) ∧ 32 < n), Eqs (.bool true), Eqs (.bool true), Eqs (.bool true), Eqs (.bool true), Eqs (.bool true)] (by assumption) (by assumption) rfl (by decide) (by as_aux_lemma => kernel_rfl) (by as_aux_lemma => kernel_rfl) ⟨Eqs.mono _, Eqs.mono _, Eqs.mono _, (Mono.of4 (OutW.mono4 _ _)), (Mono.of4 (OutW.mono4 _ _)), (Mono.of4 (OutW.mono4 _ _)), Eqs.mono _, Eqs.mono _, Eqs.mono _, Eqs.mono _, Eqs.mono _, Eqs.mono _, Eqs.mono _, (Mono.of4 (OutW.mono4 _ _)), (Mono.of4 (OutW.mono4 _ _)), Eqs.mono _, Eqs.mono _, Eqs.mono _, Eqs.mono _, Eqs.mono _, Eqs.mono _, Eqs.mono _, Eqs.mono _, Eqs.mono _, Eqs.mono _, Eqs.mono _, Eqs.mono _, Eqs.mono _, Eqs.mono _, (Mono.of4 (OutW.mono4 _ _)), (fun _ _ _ _ h => h), Eqs.mono _, Eqs.mono _, Eqs.mono _, Eqs.mono _, Eqs.mono _, trivial⟩ ?_ ?_
                · exact ⟨⟨rfl, fun a_ w_ _ hB hR hD => op_mv ((hR 20 rfl).trans (eval_list rfl))⟩,
                    ⟨rfl, fun a_ w_ _ hB hR hD => op_eqE (show a_.eval (.tmp 212) = .int .i64 0 from hD 0 rfl)⟩,
                    ⟨rfl, fun a_ w_ _ hB hR hD => op_mv (show a_.eval (.tmp 213) = .bool true from hD 1 rfl)⟩,
                    ⟨rfl, fun a_ w_ _ hB hR hD => ⟨by decide, fun _ => op_ldP ((hR 19 rfl).trans (eval_list rfl)) ((hB.block _ (lt_of_heap HN27x.out)).trans HN27x.out) (Mono.of4 (OutW.mono4 _ _) _ _ _ hB HF27x.out.out), fun hne => absurd (hD 2 rfl) hne⟩⟩,
                    ⟨rfl, fun a_ w_ _ hB hR hD => ⟨by decide, fun _ => op_ldP ((hR 8 rfl).trans (eval_list rfl)) ((hB.block _ (lt_of_heap HN27d.out)).trans HN27d.out) (Mono.of4 (OutW.mono4 _ _) _ _ _ hB HF27d.out.out), fun hne => absurd (hD 2 rfl) hne⟩⟩,
                    ⟨rfl, fun a_ w_ _ hB hR hD => ⟨by decide, fun _ => op_negT (show (OutW (dt m rows) (lg 1500)) (a_.eval (.tmp 216)) w_ from hD 4 rfl), fun hne => absurd (hD 2 rfl) hne⟩⟩,
                    ⟨rfl, fun a_ w_ _ hB hR hD => ⟨by decide, fun _ => op_same (show (OutW (-(dt m rows)) (lg 1503)) (a_.eval (.tmp 215)) w_ from hD 3 rfl) (show (OutW (-(dt m rows)) (lg 1500)) (a_.eval (.tmp 217)) w_ from hD 5 rfl) rfl, fun hne => absurd (hD 2 rfl) hne⟩⟩,
                    ⟨rfl, fun a_ w_ _ hB hR hD => op_pickb (show a_.eval (.tmp 214) = .bool true from hD 2 rfl) (show a_.eval (.tmp 218) = .bool true from hD 6 rfl)⟩,
                    ⟨rfl, fun a_ w_ _ hB hR hD => op_mv (show a_.eval (.tmp 219) = .bool true from hD 7 rfl)⟩,
                    ⟨rfl, fun a_ w_ _ hB hR hD => ⟨by decide, fun _ => op_mv ((hR 24 rfl).trans (eval_list rfl)), fun hne => absurd (hD 8 rfl) hne⟩⟩,
                    ⟨rfl, fun a_ w_ _ hB hR hD => ⟨by decide, fun _ => op_eqE (show a_.eval (.tmp 221) = .int .i64 0 from hD 9 rfl), fun hne => absurd (hD 8 rfl) hne⟩⟩,
                    ⟨rfl, fun a_ w_ _ hB hR hD => op_pickb (show a_.eval (.tmp 220) = .bool true from hD 8 rfl) (show a_.eval (.tmp 222) = .bool true from hD 10 rfl)⟩,
                    ⟨rfl, fun a_ w_ _ hB hR hD => op_mv (show a_.eval (.tmp 223) = .bool true from hD 11 rfl)⟩,
                    ⟨rfl, fun a_ w_ _ hB hR hD => ⟨by decide, fun _ => op_ldP ((hR 23 rfl).trans (eval_list rfl)) ((hB.block _ (lt_of_heap HN27z.out)).trans HN27z.out) (Mono.of4 (OutW.mono4 _ _) _ _ _ hB HF27z.out.out), fun hne => absurd (hD 12 rfl) hne⟩⟩,
                    ⟨rfl, fun a_ w_ _ hB hR hD => ⟨by decide, fun _ => op_ldP ((hR 8 rfl).trans (eval_list rfl)) ((hB.block _ (lt_of_heap HN27d.out)).trans HN27d.out) (Mono.of4 (OutW.mono4 _ _) _ _ _ hB HF27d.out.out), fun hne => absurd (hD 12 rfl) hne⟩⟩,
                    ⟨rfl, fun a_ w_ _ hB hR hD => ⟨by decide, fun _ => op_same (show (OutW (dt m rows) (lg 1503)) (a_.eval (.tmp 225)) w_ from hD 13 rfl) (show (OutW (dt m rows) (lg 1500)) (a_.eval (.tmp 226)) w_ from hD 14 rfl) rfl, fun hne => absurd (hD 12 rfl) hne⟩⟩,
                    ⟨rfl, fun a_ w_ _ hB hR hD => op_pickb (show a_.eval (.tmp 224) = .bool true from hD 12 rfl) (show a_.eval (.tmp 227) = .bool true from hD 15 rfl)⟩,
                    ⟨rfl, fun a_ w_ _ hB hR hD => op_mv (show a_.eval (.tmp 228) = .bool true from hD 16 rfl)⟩,
                    ⟨rfl, fun a_ w_ _ hB hR hD => ⟨by decide, fun _ => op_mv ((hR 22 rfl).trans (eval_list rfl)), fun hne => absurd (hD 17 rfl) hne⟩⟩,
                    ⟨rfl, fun a_ w_ _ hB hR hD => ⟨by decide, fun _ => op_eqE (show a_.eval (.tmp 230) = .int .i64 2 from hD 18 rfl), fun hne => absurd (hD 17 rfl) hne⟩⟩,
                    ⟨rfl, fun a_ w_ _ hB hR hD => ⟨by decide, fun _ => op_mv (show a_.eval (.tmp 231) = .bool false from hD 19 rfl), fun hne => absurd (hD 17 rfl) hne⟩⟩,
                    ⟨rfl, fun a_ w_ _ hB hR hD => ⟨by decide, fun hw => absurd ((show _ = _ from hD 20 rfl).symm.trans hw) (by simp), fun _ => rfl⟩⟩,
                    ⟨rfl, fun a_ w_ _ hB hR hD => ⟨by decide, fun hw => absurd ((show _ = _ from hD 20 rfl).symm.trans hw) (by simp), fun _ => rfl⟩⟩,
                    ⟨rfl, fun a_ w_ _ hB hR hD => ⟨by decide, fun hw => absurd ((show _ = _ from hD 20 rfl).symm.trans hw) (by simp), fun _ => rfl⟩⟩,
                    ⟨rfl, fun a_ w_ _ hB hR hD => ⟨by decide, fun _ => op_pickb (show a_.eval (.tmp 232) = .bool false from hD 20 rfl) rfl, fun hne => absurd (hD 17 rfl) hne⟩⟩,
                    ⟨rfl, fun a_ w_ _ hB hR hD => ⟨by decide, fun _ => op_mv (show a_.eval (.tmp 236) = (.bool false) from hD 24 rfl), fun hne => absurd (hD 17 rfl) hne⟩⟩,
                    ⟨rfl, fun a_ w_ _ hB hR hD => ⟨by decide, fun _ => op_mv ((hR 22 rfl).trans (eval_list rfl)), fun hne => absurd (hD 25 rfl) hne⟩⟩,
                    ⟨rfl, fun a_ w_ _ hB hR hD => ⟨by decide, fun _ => op_eqE (show a_.eval (.tmp 238) = .int .i64 2 from hD 26 rfl), fun hne => absurd (hD 25 rfl) hne⟩⟩,
                    ⟨rfl, fun a_ w_ _ hB hR hD => ⟨by decide, fun _ => op_mv (show a_.eval (.tmp 239) = .bool true from hD 27 rfl), fun hne => absurd (hD 25 rfl) hne⟩⟩,
                    ⟨rfl, fun a_ w_ _ hB hR hD => ⟨by decide, fun _ => op_ldP ((hR 25 rfl).trans (eval_list rfl)) ((hB.block _ (lt_of_heap HN27m.out)).trans HN27m.out) (Mono.of4 (OutW.mono4 _ _) _ _ _ hB HF27m.out.out), fun hne => absurd (hD 28 rfl) hne⟩⟩,
                    ⟨rfl, fun a_ w_ _ hB hR hD => ⟨by decide, fun _ => op_limbB (show (OutW (dt m rows * ck) (lg 1500 + 2)) (a_.eval (.tmp 241)) w_ from hD 29 rfl) HBIG.out, fun hne => absurd (hD 28 rfl) hne⟩⟩,
                    ⟨rfl, fun a_ w_ _ hB hR hD => ⟨by decide, fun _ => op_gtrB (show (fun v _ => ∃ n : Nat, v = .int .i64 (n : Int) ∧ 32 < n) (a_.eval (.tmp 242)) w_ from hD 30 rfl), fun hne => absurd (hD 28 rfl) hne⟩⟩,
                    ⟨rfl, fun a_ w_ _ hB hR hD => ⟨by decide, fun _ => op_pickb (show a_.eval (.tmp 240) = .bool true from hD 28 rfl) (show a_.eval (.tmp 243) = .bool true from hD 31 rfl), fun hne => absurd (hD 25 rfl) hne⟩⟩,
                    ⟨rfl, fun a_ w_ _ hB hR hD => ⟨by decide, fun _ => op_pickb (show a_.eval (.tmp 237) = (.bool false) from hD 25 rfl) (show a_.eval (.tmp 244) = .bool true from hD 32 rfl), fun hne => absurd (hD 17 rfl) hne⟩⟩,
                    ⟨rfl, fun a_ w_ _ hB hR hD => op_pickb (show a_.eval (.tmp 229) = .bool true from hD 17 rfl) (show a_.eval (.tmp 245) = .bool true from hD 33 rfl)⟩,
                    ⟨rfl, fun a_ w_ _ hB hR hD => op_assign (show a_.eval (.tmp 246) = .bool true from hD 34 rfl)⟩,
                    trivial⟩
                · intro a' w' hn' hd' hB' hR' hP'
                  (repeat apply Exists.intro)
                  refine ⟨?rel, act_fit hn' hd' hR' ?fit⟩
                  case fit => repeat' (first | exact trivial | refine ⟨(by first | exact .inl ⟨rfl, rfl⟩ | exact .inr rfl), ?_⟩)
                  case rel => exact ⟨(show _ = _ from hP' 35 (by decide)), hB'⟩
              case rest =>
                obtain ⟨hc6, hb28⟩ := hcut
                subst hc6
                have HB28 := hide (HB27.out.trans (hb28.mono HB27.out.size))
                clear hb28
                go_wp2
                refine bodyPost_ret (v := _) (by simp [results, Try.results4, go_sem]; try rfl) rfl ⟨rfl, HB28.out⟩
            · as_aux_lemma =>
              clear hbig22
              obtain ⟨ng22, a22, m22, c22, rfl⟩ := hf22.agg
              have hba22 := hAl w22 (.cells #[.bool ng22, .slice a22 m22 c22] 30)
              have hn22 := heap_alloc_new w22 (.cells #[.bool ng22, .slice a22 m22 c22] 30)
              rw [HSC.out] at hf22
              have hF22 := (hf22.ru (Ru.of_below hba22)).out
              have hb2123 := hb22.trans (hba22.mono hb22.size)
              have hTU23 := HTU21.out.below hb2123
              have hx23 := (hb2123.block _ (lt_of_heap HN21.out)).trans HN21.out
              have hX23 := HF21.out.ru (Ru.of_below hb2123)
              have hMA := hTU23.oA.isM (rows := rows.set i (gRow (fun c => fnR (rowAt rows i) c + ck * fnR (rowAt rows i2) c) m)) (by show (vs.set i _).length = _; simp; omega) (isrow_set HVR.out hTU23.bel (by omega) (by omega) ⟨e2, hTU23.r2.rw, HZ2.out.1, HZ2.out.2⟩)
              rw [List.length_set, HLZ.out] at hMA
              have K24 := hide (mdet_any _ _ _ m 1503 hMA HSA.out (by rw [List.length_set]; exact HLZ.out) (by decide))
              have HTU23 := hide hTU23
              have HN23 := hide (And.intro hx23 (And.intro hX23 (And.intro hn22 hF22)))
              have hfy : w22.heap.size < (w22.alloc (.cells #[.bool ng22, .slice a22 m22 c22] 30)).heap.size := lt_of_heap hn22
              clear hba22 hn22 hF22 hb2123 hTU23 hx23 hX23 hMA hb22
              go_upto_region 33 with fail
              generalize w22.heap.size = fy at *
              generalize hw23 : w22.alloc (.cells #[.bool ng22, .slice a22 m22 c22] 30) = w23 at *
              clear hw23
              go_wp2_with fail
              refine K24.out.mono ?_
              rintro e w24 ⟨ho24, hb24⟩
              have ho24 := det_out (by rw [List.length_set]; exact HLZ.out) hb24.size ho24
              rw [HAD.out, HBG.out] at ho24
              obtain ⟨hbx, _⟩ | ⟨_, r24, rfl, hf24⟩ := ho24
              · cases hbx
              obtain ⟨ng24, a24, m24, c24, rfl⟩ := hf24.agg
              have hba24 := hAl w24 (.cells #[.bool ng24, .slice a24 m24 c24] 30)
              have hn24 := heap_alloc_new w24 (.cells #[.bool ng24, .slice a24 m24 c24] 30)
              have hb25 := hb24.trans (hba24.mono hb24.size)
              obtain ⟨n1, n2, n3, n4⟩ := HN23.out
              have hTU25 := HTU23.out.below hb25
              obtain ⟨_, u0, u1, _, _⟩ := two_cells hTU25.bd
              obtain ⟨_, v0, v1, _, _⟩ := two_cells hTU25.bc
              have K26 := hide (mulF _ (dt m rows) ck _ _ (lg 1500) 2 hTU25.fd.is hTU25.fc.is (by decide) (by decide))
              have HN25 := hide (And.intro ((hb25.block _ (lt_of_heap n1)).trans n1) (And.intro (n2.ru (Ru.of_below hb25)) (And.intro ((hb25.block _ (lt_of_heap n3)).trans n3) (And.intro (n4.ru (Ru.of_below hb25)) (And.intro hn24 (hf24.ru (Ru.of_below hba24)))))))
              have HTU25 := hide hTU25
              clear K24 hb24 hf24 hba24 hn24 hb25 n1 n2 n3 n4 hTU25 hfy
              go_upto_region 34 with fail
              generalize w24.heap.size = fz at *
              generalize hw25 : w24.alloc (.cells #[.bool ng24, .slice a24 m24 c24] 30) = w25 at *
              clear hw25
              go_wp2_with fail
              refine K26.out.mono ?_
              rintro e w26 ⟨r26, rfl, hf26, hb26⟩
              obtain ⟨ng26, a26, m26, c26, rfl⟩ := hf26.agg
              have hba26 := hAl w26 (.cells #[.bool ng26, .slice a26 m26 c26] 30)
              have hn26 := heap_alloc_new w26 (.cells #[.bool ng26, .slice a26 m26 c26] 30)
              have hb27 := hb26.trans (hba26.mono hb26.size)
              have hTU27 := HTU25.out.below hb27
              obtain ⟨n1, n2, n3, n4, n5, n6⟩ := HN25.out
              have HN27x := hide ((hb27.block _ (lt_of_heap n1)).trans n1)
              have HF27x := hide (n2.ru (Ru.of_below hb27))
              have HN27y := hide ((hb27.block _ (lt_of_heap n3)).trans n3)
              have HF27y := hide (n4.ru (Ru.of_below hb27))
              have HN27z := hide ((hb27.block _ (lt_of_heap n5)).trans n5)
              have HF27z := hide (n6.ru (Ru.of_below hb27))
              have HN27m := hide hn26
              have HF27m := hide (hf26.ru (Ru.of_below hba26))
              have HN27d := hide hTU27.bd
              have HF27d := hide hTU27.fd
              have HB27 := hide hTU27.bel
              clear K26 hb26 hf26 hba26 hn26 hb27 hTU27 n1 n2 n3 n4 n5 n6 u0 u1 v0 v1
              go_upto_region 35 with fail
              generalize w26.heap.size = fm at *
              generalize hw27 : w26.alloc (.cells #[.bool ng26, .slice a26 m26 c26] 30) = w27 at *
              clear hw27
              go_cut [6] (fun cv wx => cv = .bool true ∧ Below w27.heap.size w27 wx)
              case first =>
                refine cut_abs [212, 213, 214, 215, 216, 217, 218, 219, 220, 221, 222, 223, 224, 225, 226, 227, 228, 229, 230, 231, 232, 233, 234, 235, 236, 237, 238, 239, 240, 241, 242, 243, 244, 245, 246, 6] [Eqs (.int .i64 0), Eqs (.bool true), Eqs (.bool true), (OutW (-(dt m rows)) (lg 1503)), (OutW (dt m rows) (lg 1500)), (OutW (-(dt m rows)) (lg 1500)), Eqs (.bool true), Eqs (.bool true), Eqs (.bool true), Eqs (.int .i64 0), Eqs (.bool true), Eqs (.bool true), Eqs (.bool true), (OutW (dt m rows) (lg 1503)), (OutW (dt m rows) (lg 1500)), Eqs (.bool true), Eqs (.bool true), Eqs (.bool true), Eqs (.int .i64 0), Eqs (.bool true), Eqs (.bool true), (OutW (dt m rows * ck) (lg 1503)), (OutW (dt m rows * ck) (lg 1500 + 2)), Eqs (.bool true), Eqs (.bool true), Eqs (.bool true), Eqs (undef), Eqs (undef), Eqs (undef), Eqs (undef), Eqs (undef), Eqs (undef), Eqs (undef), Eqs ((.bool true)), Eqs ((.bool true)), Eqs ((.bool true))] (by assumption) (by assumption) rfl (by decide) (by as_aux_lemma => kernel_rfl) (by as_aux_lemma => kernel_rfl) ⟨Eqs.mono _, Eqs.mono _, Eqs.mono _, (Mono.of4 (OutW.mono4 _ _)), (Mono.of4 (OutW.mono4 _ _)), (Mono.of4 (OutW.mono4 _ _)), Eqs.mono _, Eqs.mono _, Eqs.mono _, Eqs.mono _, Eqs.mono _, Eqs.mono _, Eqs.mono _, (Mono.of4 (OutW.mono4 _ _)), (Mono.of4 (OutW.mono4 _ _)), Eqs.mono _, Eqs.mono _, Eqs.mono _, Eqs.mono _, Eqs.mono _, Eqs.mono _, (Mono.of4 (OutW.mono4 _ _)), (Mono.of4 (OutW.mono4 _ _)), Eqs.mono _, Eqs.mono _, Eqs.mono _, Eqs.mono _, Eqs.mono _, Eqs.mono _, Eqs.mono _, Eqs.mono _, Eqs.mono _, Eqs.mono _, Eqs.mono _, Eqs.mono _, Eqs.mono _, trivial⟩ ?_ ?_
                · exact ⟨⟨rfl, fun a_ w_ _ hB hR hD => op_mv ((hR 20 rfl).trans (eval_list rfl))⟩,
                    ⟨rfl, fun a_ w_ _ hB hR hD => op_eqE (show a_.eval (.tmp 212) = .int .i64 0 from hD 0 rfl)⟩,
                    ⟨rfl, fun a_ w_ _ hB hR hD => op_mv (show a_.eval (.tmp 213) = .bool true from hD 1 rfl)⟩,
                    ⟨rfl, fun a_ w_ _ hB hR hD => ⟨by decide, fun _ => op_ldP ((hR 19 rfl).trans (eval_list rfl)) ((hB.block _ (lt_of_heap HN27x.out)).trans HN27x.out) (Mono.of4 (OutW.mono4 _ _) _ _ _ hB HF27x.out.out), fun hne => absurd (hD 2 rfl) hne⟩⟩,
                    ⟨rfl, fun a_ w_ _ hB hR hD => ⟨by decide, fun _ => op_ldP ((hR 8 rfl).trans (eval_list rfl)) ((hB.block _ (lt_of_heap HN27d.out)).trans HN27d.out) (Mono.of4 (OutW.mono4 _ _) _ _ _ hB HF27d.out.out), fun hne => absurd (hD 2 rfl) hne⟩⟩,
                    ⟨rfl, fun a_ w_ _ hB hR hD => ⟨by decide, fun _ => op_negT (show (OutW (dt m rows) (lg 1500)) (a_.eval (.tmp 216)) w_ from hD 4 rfl), fun hne => absurd (hD 2 rfl) hne⟩⟩,
                    ⟨rfl, fun a_ w_ _ hB hR hD => ⟨by decide, fun _ => op_same (show (OutW (-(dt m rows)) (lg 1503)) (a_.eval (.tmp 215)) w_ from hD 3 rfl) (show (OutW (-(dt m rows)) (lg 1500)) (a_.eval (.tmp 217)) w_ from hD 5 rfl) rfl, fun hne => absurd (hD 2 rfl) hne⟩⟩,
                    ⟨rfl, fun a_ w_ _ hB hR hD => op_pickb (show a_.eval (.tmp 214) = .bool true from hD 2 rfl) (show a_.eval (.tmp 218) = .bool true from hD 6 rfl)⟩,
                    ⟨rfl, fun a_ w_ _ hB hR hD => op_mv (show a_.eval (.tmp 219) = .bool true from hD 7 rfl)⟩,
                    ⟨rfl, fun a_ w_ _ hB hR hD => ⟨by decide, fun _ => op_mv ((hR 24 rfl).trans (eval_list rfl)), fun hne => absurd (hD 8 rfl) hne⟩⟩,
                    ⟨rfl, fun a_ w_ _ hB hR hD => ⟨by decide, fun _ => op_eqE (show a_.eval (.tmp 221) = .int .i64 0 from hD 9 rfl), fun hne => absurd (hD 8 rfl) hne⟩⟩,
                    ⟨rfl, fun a_ w_ _ hB hR hD => op_pickb (show a_.eval (.tmp 220) = .bool true from hD 8 rfl) (show a_.eval (.tmp 222) = .bool true from hD 10 rfl)⟩,
                    ⟨rfl, fun a_ w_ _ hB hR hD => op_mv (show a_.eval (.tmp 223) = .bool true from hD 11 rfl)⟩,
                    ⟨rfl, fun a_ w_ _ hB hR hD => ⟨by decide, fun _ => op_ldP ((hR 23 rfl).trans (eval_list rfl)) ((hB.block _ (lt_of_heap HN27z.out)).trans HN27z.out) (Mono.of4 (OutW.mono4 _ _) _ _ _ hB HF27z.out.out), fun hne => absurd (hD 12 rfl) hne⟩⟩,
                    ⟨rfl, fun a_ w_ _ hB hR hD => ⟨by decide, fun _ => op_ldP ((hR 8 rfl).trans (eval_list rfl)) ((hB.block _ (lt_of_heap HN27d.out)).trans HN27d.out) (Mono.of4 (OutW.mono4 _ _) _ _ _ hB HF27d.out.out), fun hne => absurd (hD 12 rfl) hne⟩⟩,
                    ⟨rfl, fun a_ w_ _ hB hR hD => ⟨by decide, fun _ => op_same (show (OutW (dt m rows) (lg 1503)) (a_.eval (.tmp 225)) w_ from hD 13 rfl) (show (OutW (dt m rows) (lg 1500)) (a_.eval (.tmp 226)) w_ from hD 14 rfl) rfl, fun hne => absurd (hD 12 rfl) hne⟩⟩,
                    ⟨rfl, fun a_ w_ _ hB hR hD => op_pickb (show a_.eval (.tmp 224) = .bool true from hD 12 rfl) (show a_.eval (.tmp 227) = .bool true from hD 15 rfl)⟩,
                    ⟨rfl, fun a_ w_ _ hB hR hD => op_mv (show a_.eval (.tmp 228) = .bool true from hD 16 rfl)⟩,
                    ⟨rfl, fun a_ w_ _ hB hR hD => ⟨by decide, fun _ => op_mv ((hR 22 rfl).trans (eval_list rfl)), fun hne => absurd (hD 17 rfl) hne⟩⟩,
                    ⟨rfl, fun a_ w_ _ hB hR hD => ⟨by decide, fun _ => op_eqE (show a_.eval (.tmp 230) = .int .i64 0 from hD 18 rfl), fun hne => absurd (hD 17 rfl) hne⟩⟩,
                    ⟨rfl, fun a_ w_ _ hB hR hD => ⟨by decide, fun _ => op_mv (show a_.eval (.tmp 231) = .bool true from hD 19 rfl), fun hne => absurd (hD 17 rfl) hne⟩⟩,
                    ⟨rfl, fun a_ w_ _ hB hR hD => ⟨by decide, fun _ => op_ldP ((hR 21 rfl).trans (eval_list rfl)) ((hB.block _ (lt_of_heap HN27y.out)).trans HN27y.out) (Mono.of4 (OutW.mono4 _ _) _ _ _ hB HF27y.out), fun hne => absurd (hD 20 rfl) hne⟩⟩,
                    ⟨rfl, fun a_ w_ _ hB hR hD => ⟨by decide, fun _ => op_ldP ((hR 25 rfl).trans (eval_list rfl)) ((hB.block _ (lt_of_heap HN27m.out)).trans HN27m.out) (Mono.of4 (OutW.mono4 _ _) _ _ _ hB HF27m.out.out), fun hne => absurd (hD 20 rfl) hne⟩⟩,
                    ⟨rfl, fun a_ w_ _ hB hR hD => ⟨by decide, fun _ => op_same (show (OutW (dt m rows * ck) (lg 1503)) (a_.eval (.tmp 233)) w_ from hD 21 rfl) (show (OutW (dt m rows * ck) (lg 1500 + 2)) (a_.eval (.tmp 234)) w_ from hD 22 rfl) rfl, fun hne => absurd (hD 20 rfl) hne⟩⟩,
                    ⟨rfl, fun a_ w_ _ hB hR hD => ⟨by decide, fun _ => op_pickb (show a_.eval (.tmp 232) = .bool true from hD 20 rfl) (show a_.eval (.tmp 235) = .bool true from hD 23 rfl), fun hne => absurd (hD 17 rfl) hne⟩⟩,
                    ⟨rfl, fun a_ w_ _ hB hR hD => ⟨by decide, fun _ => op_mv (show a_.eval (.tmp 236) = .bool true from hD 24 rfl), fun hne => absurd (hD 17 rfl) hne⟩⟩,
                    ⟨rfl, fun a_ w_ _ hB hR hD => ⟨by decide, fun hw => absurd ((show _ = _ from hD 25 rfl).symm.trans hw) (by simp), fun _ => rfl⟩⟩,
                    ⟨rfl, fun a_ w_ _ hB hR hD => ⟨by decide, fun hw => absurd ((show _ = _ from hD 25 rfl).symm.trans hw) (by simp), fun _ => rfl⟩⟩,
                    ⟨rfl, fun a_ w_ _ hB hR hD => ⟨by decide, fun hw => absurd ((show _ = _ from hD 25 rfl).symm.trans hw) (by simp), fun _ => rfl⟩⟩,
                    ⟨rfl, fun a_ w_ _ hB hR hD => ⟨by decide, fun hw => absurd ((show _ = _ from hD 28 rfl).symm.trans hw) (by simp [undef]), fun _ => rfl⟩⟩,
                    ⟨rfl, fun a_ w_ _ hB hR hD => ⟨by decide, fun hw => absurd ((show _ = _ from hD 28 rfl).symm.trans hw) (by simp [undef]), fun _ => rfl⟩⟩,
                    ⟨rfl, fun a_ w_ _ hB hR hD => ⟨by decide, fun hw => absurd ((show _ = _ from hD 28 rfl).symm.trans hw) (by simp [undef]), fun _ => rfl⟩⟩,
                    ⟨rfl, fun a_ w_ _ hB hR hD => ⟨by decide, fun hw => absurd ((show _ = _ from hD 25 rfl).symm.trans hw) (by simp), fun _ => rfl⟩⟩,
                    ⟨rfl, fun a_ w_ _ hB hR hD => ⟨by decide, fun _ => op_pickb (show a_.eval (.tmp 237) = .bool true from hD 25 rfl) rfl, fun hne => absurd (hD 17 rfl) hne⟩⟩,
                    ⟨rfl, fun a_ w_ _ hB hR hD => op_pickb (show a_.eval (.tmp 229) = .bool true from hD 17 rfl) (show a_.eval (.tmp 245) = (.bool true) from hD 33 rfl)⟩,
                    ⟨rfl, fun a_ w_ _ hB hR hD => op_assign (show a_.eval (.tmp 246) = (.bool true) from hD 34 rfl)⟩,
                    trivial⟩
                · intro a' w' hn' hd' hB' hR' hP'
                  (repeat apply Exists.intro)
                  refine ⟨?rel, act_fit hn' hd' hR' ?fit⟩
                  case fit => repeat' (first | exact trivial | refine ⟨(by first | exact .inl ⟨rfl, rfl⟩ | exact .inr rfl), ?_⟩)
                  case rel => exact ⟨(show _ = _ from hP' 35 (by decide)), hB'⟩
              case rest =>
                obtain ⟨hc6, hb28⟩ := hcut
                subst hc6
                have HB28 := hide (HB27.out.trans (hb28.mono HB27.out.size))
                clear hb28
                go_wp2
                refine bodyPost_ret (v := _) (by simp [results, Try.results4, go_sem]; try rfl) rfl ⟨rfl, HB28.out⟩
end Lm
end Go.Proofs.Ytodgiglhconkoaa

namespace Go.Proofs.Ytodgiglhconkoaa
namespace matrixTurnsLaw
open Go.ChangeShapes Go.WideShapes Go.ChangeAt Go.RowKit
open Go.ChangeMaps (open_string shut_string)
theorem own : ownKnob Try.prog.godebug = none := by kernel_rfl
theorem laidOut : laidOutB Try.prog = true := by kernel_rfl
set_option linter.unusedVariables false in
set_option maxRecDepth 100000 in
theorem lifted (os : Os) (started : os.Started) (H : Type) (enc : TypeId × Value → H) :
    ReturnsInHanded {} Try.checked os 4 .any (Rows.matrixTurnsSpec.pre6 enc Try.prog Try.f4 Rows.matrixTurnsRow.domain false) (Rows.matrixTurnsSpec.post enc Try.prog Try.f4 false true false false) := by
  refine returnsInHanded_of_change_sized (C := Try.checked) own started (by kernel_rfl) Try.func4
    (ChangeSpec.witness6 (enc := enc) (C := Try.checked) false ⟨#[], #[.slice none 0 0, .int .i64 0, .int .i64 0], []⟩ 8 (by kernel_rfl) (by kernel_rfl) (by kernel_rfl) (by kernel_rfl)) ?_
  intro W base args ds gs before hval0 hW hcnd hsz0 _
  have hval : ∀ (j : Nat) t v, Try.f4.params[j]? = some t → args[j]? = some v → Value.okWide Try.prog W .any base t v := hval0
  have hW' := hW
  obtain ⟨p, q, hA0, hV, rfl, hfz, hnd⟩ := hW
  have hA : DataW.TrodAll enc Try.prog W 0 (fun _ => true) true Try.f4.params.toList args.toList ds p := hA0
  have hsz : (DataW.weightsEach Try.prog (Try.f4.params.toList ++ Rows.matrixTurnsSpec.plain.varTypes Try.prog) (ds ++ gs)).all (· ≤ reachBytes) = true := hsz0
  rw [Try.params4] at hA hval hsz
  obtain ⟨v0, vs0, d0, ds0, p0, q0, hargs, rfl, rfl, h0, r_0⟩ := trodAll_cons hA
  obtain ⟨v1, vs1, d1, ds1, p1, q1, rfl, rfl, rfl, h1, r_1⟩ := trodAll_cons r_0
  obtain ⟨v2, vs2, d2, ds2, p2, q2, rfl, rfl, rfl, h2, r_2⟩ := trodAll_cons r_1
  obtain ⟨rfl, rfl, rfl⟩ := trodAll_nil r_2
  obtain rfl : args = #[v0, v1, v2] := by cases args; simp_all
  obtain ⟨rfl, rfl⟩ := trodVars_none hV
  obtain ⟨a0, len0, cap0, rfl⟩ := okWide_slice Try.underlying22 (hval 0 22 v0 rfl rfl)
  have k0 := h0
  have lt0 : ∀ x ∈ p0, x.block < W.heap.size := by obtain ⟨m, hm⟩ := k0; exact DataW.trod_lt m _ _ _ hm
  obtain ⟨z0, w0, b0⟩ : ∃ ess, Lm.RwM W (.slice a0 len0 cap0) ess ∧ ∀ es ∈ ess, ∀ e ∈ es, e.m ≤ 35184372088832 := by
    obtain ⟨fuel, hf⟩ := h0
    refine Lm.open_rows_s (x := (d0, p0)) (by simpa [Value.cells] using hf) (fun k hk => ?_)
    have := List.all_eq_true.1 hsz k (DataW.weights_mem_each (j := 0) (t := 22) (d := d0) rfl rfl k hk)
    simpa using this
  obtain ⟨a1, rfl, rfl, rfl, w1⟩ := open_int Try.underlying3 (hval 1 3 v1 rfl rfl) h1
  obtain ⟨a2, rfl, rfl, rfl, w2⟩ := open_int Try.underlying3 (hval 2 3 v2 rfl rfl) h2
  clear hA0 hval0
  refine (Lm.mturns_s W (.slice a0 len0 cap0) z0 a1 a2 w0 b0).mono fun e W' ⟨he, bel⟩ => ?_
  subst he
  exact ⟨_, rfl, _, _, _, [], _, [], hW', trodAll_mk1 (shut_bool Try.underlying4 _), (trodAll_cons_mk (Below.trod laidOut (by kernel_rfl) (of_decide_eq_true (by kernel_rfl)) k0 bel lt0) (trodAll_cons_mk (shut_int Try.underlying3 w1) (trodAll_cons_mk (shut_int Try.underlying3 w2) trodAll_mk0))), rfl, bel.frame _, fun h => by cases h⟩
theorem over : Rows.matrixTurnsRow.holds Try.pinned (OpenSpec.ofChange Rows.matrixTurnsSpec) :=
  OpenClaim.holds_of_wide 4 Try.f4 rfl rfl rfl rfl rfl rfl rfl ⟨rfl, rfl, rfl, rfl, rfl⟩ rfl rfl rfl rfl rfl (by kernel_rfl) Try.func4 (by kernel_rfl)
    (of_decide_eq_true (by kernel_rfl)) (by unfold Func.isWrapper; first | (rw [if_pos (by decide +kernel)]; kernel_rfl) | (rw [if_neg (by decide +kernel)]; exact ⟨rfl, rfl⟩))
    (fun os started H enc _ => lifted os started H enc)
end matrixTurnsLaw
theorem matrixTurns_holds : Rows.MatrixTurnsSaid := matrixTurnsLaw.over
#print axioms matrixTurns_holds
end Go.Proofs.Ytodgiglhconkoaa

