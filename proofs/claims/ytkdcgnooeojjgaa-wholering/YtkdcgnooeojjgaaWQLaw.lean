/-
  The given statement on WholeRing, for every input: the call answers true, and each argument reads behind it as it read before. No condition beyond the statement's own.
-/
import Derived.Test.YtkdcgnooeojjgaaRows
import Derived.Test.YtkdcgnooeojjgaaWQ
import Derived.ProofKit
import Derived.OpenShut
import Derived.ShutString
import Derived.ChangeOld
import Derived.SizedLaws
import Derived.Lib.SmallJoins
namespace Go.Proofs.Ytkdcgnooeojjgaa
namespace wholeRingLaw
open Go.ChangeShapes Go.WideShapes Go.ChangeAt Go.RowKit
open Go.ChangeMaps (open_string shut_string)

theorem own : ownKnob Try.prog.godebug = none := by kernel_rfl
theorem laidOut : laidOutB Try.prog = true := by kernel_rfl
theorem bytes4 : Try.prog.bytesOf 52 = 4 := by kernel_rfl

theorem sl_of {w : World} {x : Addr} {l c : Nat} {zs : List Int} (hl : l ≤ c) (hm : c ≤ maxLen) (hz : zs.length = c) (hcell : ∀ i, i < zs.length → w.cell? (x.add i) = some (.int .u32 (zs.getD i 0))) (hwz : ∀ n ∈ zs, (Lit.int .u32 n).wf = true) : Lm.Sl w (.slice (some x) l c) (zs.take l) := by
  have hll : (zs.take l).length = l := by rw [List.length_take]; omega
  refine ⟨some x, c, by rw [hll], by omega, hm, fun n hn => ?_, ?_⟩
  · have := bounds_u32 (hwz n (List.mem_of_mem_take hn))
    omega
  · by_cases h0 : l = 0
    · exact .inl (List.eq_nil_of_length_eq_zero (by omega))
    · obtain ⟨b, off, spot⟩ := x
      have h1 := hcell 0 (by omega)
      have hspot : spot = none := by simpa [Addr.add] using World.cell?_spot h1
      subst hspot
      refine .inr ⟨b, off, rfl, fun i hi => ?_⟩
      have h2 := hcell i (by omega)
      rw [Lm.getD_take _ _ _ (by omega)]
      have e : (⟨b, off, none⟩ : Addr).add i = ⟨b, off + i, none⟩ := by
        by_cases hi0 : i = 0
        · subst hi0; simp [Addr.add]
        · simp [Addr.add, hi0]
      rwa [e] at h2

set_option linter.unusedVariables false in
set_option maxRecDepth 100000 in
theorem lifted (os : Os) (started : os.Started) (H : Type) (enc : TypeId × Value → H) :
    ReturnsInHanded {} Try.checked os 6 .any (Rows.wholeRingSpec.pre6 enc Try.prog Try.f6 Rows.wholeRingRow.domain false) (Rows.wholeRingSpec.post enc Try.prog Try.f6 false true false false) := by
  refine returnsInHanded_of_change_sized (C := Try.checked) own started (by kernel_rfl) Try.func6
    (ChangeSpec.witness6 (enc := enc) (C := Try.checked) false ⟨#[], #[.agg #[.bool false, .slice none 0 0], .agg #[.bool false, .slice none 0 0], .agg #[.bool false, .slice none 0 0]], []⟩ 8 (by kernel_rfl) (by kernel_rfl) (by kernel_rfl) (by kernel_rfl)) ?_
  intro W base args ds gs before hval0 hW hcnd hsz0 _
  have hval : ∀ (j : Nat) t v, Try.f6.params[j]? = some t → args[j]? = some v → Value.okWide Try.prog W .any base t v := hval0
  have hW' := hW
  obtain ⟨p, q, hA0, hV, rfl, hfz, hnd⟩ := hW
  have hA : DataW.TrodAll enc Try.prog W 0 (fun _ => true) true Try.f6.params.toList args.toList ds p := hA0
  have hsz : (DataW.weightsEach Try.prog (Try.f6.params.toList ++ Rows.wholeRingSpec.plain.varTypes Try.prog) (ds ++ gs)).all (· ≤ reachBytes) = true := hsz0
  rw [Try.params6] at hA hval hsz
  obtain ⟨v0, vs0, d0, ds0, p0, q0, hargs, rfl, rfl, h0, r0⟩ := trodAll_cons hA
  obtain ⟨v1, vs1, d1, ds1, p1, q1, rfl, rfl, rfl, h1, r1⟩ := trodAll_cons r0
  obtain ⟨v2, vs2, d2, ds2, p2, q2, rfl, rfl, rfl, h2, r2⟩ := trodAll_cons r1
  obtain ⟨rfl, rfl, rfl⟩ := trodAll_nil r2
  obtain rfl : args = #[v0, v1, v2] := by cases args; simp_all
  obtain ⟨rfl, rfl⟩ := trodVars_none hV
  have k0 := h0
  have lt0 : ∀ x ∈ p0, x.block < W.heap.size := by obtain ⟨m, hm⟩ := k0; exact DataW.trod_lt m _ _ _ hm
  obtain ⟨g0, a0, len0, cap0, z0, hv0, w0, b0⟩ : ∃ ng ao n cap zs, v0 = .agg #[.bool ng, .slice ao n cap] ∧ Lm.Sl W (.slice ao n cap) zs ∧ n ≤ 35184372088832 := by
    obtain ⟨x0, x1, y0, y1, m, hv, hd, _, t0, t1⟩ := Go.Joins.open_agg2 Try.underlying24 (by kernel_rfl) (by kernel_rfl) (hval 0 24 v0 rfl rfl) h0
    obtain ⟨b, hb0, _⟩ := DataW.trod_bool Try.underlying4 t0
    obtain rfl : x0 = .bool b := by simpa using hb0
    rcases open_ints Try.underlying22 Try.underlying52 (by kernel_rfl) t1 with ⟨hcs, _⟩ | ⟨x, l, c, zs, hcs, _, hl, hm, hz, hx, hcell, hwz⟩
    · obtain rfl : x1 = .slice none 0 0 := by simpa using hcs
      exact ⟨b, none, 0, 0, [], hv, ⟨none, 0, rfl, Nat.le_refl _, by simp [maxLen], Lm.limb_nil, .inl rfl⟩, by omega⟩
    · obtain rfl : x1 = .slice (some x) l c := by simpa using hcs
      have hz' : zs.length = c := by simpa using hz
      have hx1 : y1.1 = .slice (lits .u32 (zs.take l)) (lits .u32 (zs.drop l)) := congrArg Prod.fst hx
      refine ⟨b, some x, l, c, _, hv, sl_of hl hm hz' hcell hwz, ?_⟩
      have hs := List.all_eq_true.1 hsz _ (DataW.weights_mem_each (j := 0) (t := 24) rfl (congrArg some hd) (((lits .u32 (zs.take l) : List (DataW H)).length + (lits .u32 (zs.drop l) : List (DataW H)).length) * Try.prog.bytesOf 52) (by rw [hx1]; simp [DataW.weights, DataW.weightsEach, Try.underlying24, Try.underlying22]))
      rw [bytes4] at hs
      simp only [lits, List.length_map, List.length_take, List.length_drop, reachBytes, decide_eq_true_eq] at hs
      omega
  subst hv0
  have k1 := h1
  have lt1 : ∀ x ∈ p1, x.block < W.heap.size := by obtain ⟨m, hm⟩ := k1; exact DataW.trod_lt m _ _ _ hm
  obtain ⟨g1, a1, len1, cap1, z1, hv1, w1, b1⟩ : ∃ ng ao n cap zs, v1 = .agg #[.bool ng, .slice ao n cap] ∧ Lm.Sl W (.slice ao n cap) zs ∧ n ≤ 35184372088832 := by
    obtain ⟨x0, x1, y0, y1, m, hv, hd, _, t0, t1⟩ := Go.Joins.open_agg2 Try.underlying24 (by kernel_rfl) (by kernel_rfl) (hval 1 24 v1 rfl rfl) h1
    obtain ⟨b, hb0, _⟩ := DataW.trod_bool Try.underlying4 t0
    obtain rfl : x0 = .bool b := by simpa using hb0
    rcases open_ints Try.underlying22 Try.underlying52 (by kernel_rfl) t1 with ⟨hcs, _⟩ | ⟨x, l, c, zs, hcs, _, hl, hm, hz, hx, hcell, hwz⟩
    · obtain rfl : x1 = .slice none 0 0 := by simpa using hcs
      exact ⟨b, none, 0, 0, [], hv, ⟨none, 0, rfl, Nat.le_refl _, by simp [maxLen], Lm.limb_nil, .inl rfl⟩, by omega⟩
    · obtain rfl : x1 = .slice (some x) l c := by simpa using hcs
      have hz' : zs.length = c := by simpa using hz
      have hx1 : y1.1 = .slice (lits .u32 (zs.take l)) (lits .u32 (zs.drop l)) := congrArg Prod.fst hx
      refine ⟨b, some x, l, c, _, hv, sl_of hl hm hz' hcell hwz, ?_⟩
      have hs := List.all_eq_true.1 hsz _ (DataW.weights_mem_each (j := 1) (t := 24) rfl (congrArg some hd) (((lits .u32 (zs.take l) : List (DataW H)).length + (lits .u32 (zs.drop l) : List (DataW H)).length) * Try.prog.bytesOf 52) (by rw [hx1]; simp [DataW.weights, DataW.weightsEach, Try.underlying24, Try.underlying22]))
      rw [bytes4] at hs
      simp only [lits, List.length_map, List.length_take, List.length_drop, reachBytes, decide_eq_true_eq] at hs
      omega
  subst hv1
  have k2 := h2
  have lt2 : ∀ x ∈ p2, x.block < W.heap.size := by obtain ⟨m, hm⟩ := k2; exact DataW.trod_lt m _ _ _ hm
  obtain ⟨g2, a2, len2, cap2, z2, hv2, w2, b2⟩ : ∃ ng ao n cap zs, v2 = .agg #[.bool ng, .slice ao n cap] ∧ Lm.Sl W (.slice ao n cap) zs ∧ n ≤ 35184372088832 := by
    obtain ⟨x0, x1, y0, y1, m, hv, hd, _, t0, t1⟩ := Go.Joins.open_agg2 Try.underlying24 (by kernel_rfl) (by kernel_rfl) (hval 2 24 v2 rfl rfl) h2
    obtain ⟨b, hb0, _⟩ := DataW.trod_bool Try.underlying4 t0
    obtain rfl : x0 = .bool b := by simpa using hb0
    rcases open_ints Try.underlying22 Try.underlying52 (by kernel_rfl) t1 with ⟨hcs, _⟩ | ⟨x, l, c, zs, hcs, _, hl, hm, hz, hx, hcell, hwz⟩
    · obtain rfl : x1 = .slice none 0 0 := by simpa using hcs
      exact ⟨b, none, 0, 0, [], hv, ⟨none, 0, rfl, Nat.le_refl _, by simp [maxLen], Lm.limb_nil, .inl rfl⟩, by omega⟩
    · obtain rfl : x1 = .slice (some x) l c := by simpa using hcs
      have hz' : zs.length = c := by simpa using hz
      have hx1 : y1.1 = .slice (lits .u32 (zs.take l)) (lits .u32 (zs.drop l)) := congrArg Prod.fst hx
      refine ⟨b, some x, l, c, _, hv, sl_of hl hm hz' hcell hwz, ?_⟩
      have hs := List.all_eq_true.1 hsz _ (DataW.weights_mem_each (j := 2) (t := 24) rfl (congrArg some hd) (((lits .u32 (zs.take l) : List (DataW H)).length + (lits .u32 (zs.drop l) : List (DataW H)).length) * Try.prog.bytesOf 52) (by rw [hx1]; simp [DataW.weights, DataW.weightsEach, Try.underlying24, Try.underlying22]))
      rw [bytes4] at hs
      simp only [lits, List.length_map, List.length_take, List.length_drop, reachBytes, decide_eq_true_eq] at hs
      omega
  subst hv2
  clear hA0 hval0
  refine (Lm.wring_law W g0 a0 len0 cap0 z0 _ g1 a1 len1 cap1 z1 _ g2 a2 len2 cap2 z2 _ ⟨w0, rfl⟩ ⟨w1, rfl⟩ ⟨w2, rfl⟩ b0 b1 b2).mono fun e W' ⟨he, bel⟩ => ?_
  subst he
  exact ⟨_, rfl, _, _, _, [], _, [], hW', trodAll_mk1 (shut_bool Try.underlying4 _), (trodAll_cons_mk (Below.trod laidOut (by kernel_rfl) (of_decide_eq_true (by kernel_rfl)) k0 bel lt0) (trodAll_cons_mk (Below.trod laidOut (by kernel_rfl) (of_decide_eq_true (by kernel_rfl)) k1 bel lt1) (trodAll_cons_mk (Below.trod laidOut (by kernel_rfl) (of_decide_eq_true (by kernel_rfl)) k2 bel lt2) trodAll_mk0))), rfl, bel.frame _, fun h => by cases h⟩

theorem over : Rows.wholeRingRow.holds Try.pinned (OpenSpec.ofChange Rows.wholeRingSpec) :=
  OpenClaim.holds_of_wide 6 Try.f6 rfl rfl rfl rfl rfl rfl rfl ⟨rfl, rfl, rfl, rfl, rfl⟩ rfl rfl rfl rfl rfl (by kernel_rfl) Try.func6 (by kernel_rfl)
    (of_decide_eq_true (by kernel_rfl)) (by unfold Func.isWrapper; first | (rw [if_pos (by decide +kernel)]; kernel_rfl) | (rw [if_neg (by decide +kernel)]; exact ⟨rfl, rfl⟩))
    (fun os started H enc _ => lifted os started H enc)
end wholeRingLaw

theorem wholeRing_holds : Rows.WholeRingSaid := wholeRingLaw.over
#print axioms wholeRing_holds
end Go.Proofs.Ytkdcgnooeojjgaa
