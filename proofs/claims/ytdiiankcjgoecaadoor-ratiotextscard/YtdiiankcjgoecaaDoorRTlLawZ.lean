/-
  The given statement on RatioTexts, for every input: the call answers true, and each argument reads behind it as it read before; and its card. Its condition: the two tables of unicode/utf8 are laid as the row lists them; the card ties that to the program's text.
-/
import Derived.Test.YtdiiankcjgoecaaDoorRows
import Derived.Test.YtdiiankcjgoecaaDoorCards
import Derived.Test.YtdiiankcjgoecaaDoorTie
import Derived.ProofKit
import Derived.OpenShut
import Derived.ShutString
import Derived.ChangeOld
import Derived.SizedLaws
import Derived.Lib.SmallJoins
import Derived.Lib.LaidU8
import Derived.Lib.LaidIn
import Derived.Deep.DeepHandedRow
import Derived.Test.YtdiiankcjgoecaaDoorRTlLawZ4
namespace Go.Proofs.YtdiiankcjgoecaaDoor
namespace ratioTextsLaw
open Go.ChangeShapes Go.WideShapes Go.ChangeAt Go.RowKit
open Go.ChangeMaps (open_string shut_string)
theorem own : ownKnob Tryd.prog.godebug = none := by kernel_rfl
theorem laidOut : laidOutB Tryd.prog = true := by kernel_rfl
theorem bytes4 : Tryd.prog.bytesOf 124 = 4 := by kernel_rfl
theorem sl_of {w : World} {x : Addr} {l c : Nat} {zs : List Int} (hl : l ≤ c) (hm : c ≤ maxLen) (hz : zs.length = c) (hcell : ∀ i, i < zs.length → w.cell? (x.add i) = some (.int .u32 (zs.getD i 0))) (hwz : ∀ n ∈ zs, (Lit.int .u32 n).wf = true) : Lm.Sl w (.slice (some x) l c) (zs.take l) := by
  have hll : (zs.take l).length = l := by rw [List.length_take]; omega
  refine ⟨some x, c, by rw [hll], by omega, hm, fun n hn => ?_, ?_⟩
  · have := bounds_u32 (hwz n (List.mem_of_mem_take hn))
    omega
  · by_cases h0 : l = 0
    · exact .inl (List.eq_nil_of_length_eq_zero (by omega))
    · obtain ⟨b, off, spot⟩ := x
      have h1 := hcell 0 (by omega)
      have hspot : spot = none := by simpa [Addr.add] using World.cell?_spot h1
      subst hspot
      refine .inr ⟨b, off, rfl, fun i hi => ?_⟩
      have h2 := hcell i (by omega)
      rw [Lm.getD_take _ _ _ (by omega)]
      have e : (⟨b, off, none⟩ : Addr).add i = ⟨b, off + i, none⟩ := by
        by_cases hi0 : i = 0
        · subst hi0; simp [Addr.add]
        · simp [Addr.add, hi0]
      rwa [e] at h2
noncomputable def laidWorld (os : Os) : World :=
  let w0 := World.holding Tryd.prog os ⟨#[], #[], []⟩
  let put (h : Array Obj) (g : Nat) (cs : Array Value) : Array Obj := h.modify g fun
    | .cells _ t frozen => .cells cs t frozen
    | o => o
  let h1 := put w0.heap (Tryd.lays197_ren.g 3) (Lib.firstTab.map fun z => Value.int .u8 z).toArray
  let h2 := put h1 (Tryd.lays197_ren.g 4) ((List.range 16).flatMap fun i => [Value.int .u8 (Lib.accLo i), Value.int .u8 (Lib.accHi i)]).toArray
  { w0 with heap := h2 }
theorem laid_met (os : Os) : laidMet Tryd.prog Rows.ratioTextsRow.laid ((laidWorld os).forCall (fun _ _ => 0) ⟨#[], #[.string ⟨#[]⟩, .agg #[.bool false, .slice none 0 0, .slice none 0 0]], []⟩).memory :=
  laidMet_of_run' 8 (by kernel_rfl) (by kernel_rfl)
theorem tabs {W : World} (h : laidMet Tryd.prog Rows.ratioTextsRow.laid W) : Lm.Tabs W :=
  utf8Tabs_of_reads (ρ := Tryd.lays197_ren) { Tryd.lays197 with } ⟨by kernel_rfl, by kernel_rfl, by kernel_rfl, by kernel_rfl, by kernel_rfl, by kernel_rfl, by kernel_rfl⟩
    (Lib.laidMet.reads h (show ("unicode/utf8.first", Lib.firstData) ∈ Rows.ratioTextsRow.laid from by
      rw [show Lib.firstData = Rows.laid_unicode_utf8_first from by kernel_rfl]
      exact .tail _ (.head _)))
    (Lib.laidMet.reads h (show ("unicode/utf8.acceptRanges", Lib.acceptData) ∈ Rows.ratioTextsRow.laid from by
      rw [show Lib.acceptData = Rows.laid_unicode_utf8_acceptRanges from by kernel_rfl]
      exact .head _))
theorem reads (os : Os) {H : Type} (enc : TypeId × Value → H) : ∃ places, DataW.whole enc Tryd.prog ((laidWorld os).forCall (fun _ _ => 0) ⟨#[], #[.string ⟨#[]⟩, .agg #[.bool false, .slice none 0 0, .slice none 0 0]], []⟩).memory Tryd.f5.params.toList Rows.ratioTextsSpec.vars false (#[.string ⟨#[]⟩, .agg #[.bool false, .slice none 0 0, .slice none 0 0]] : Array Value).toList 8 = some ([.lit (.string []), .agg [.agg [.lit (.bool false), .nil], .nil]], [], places) :=
  ⟨[], by kernel_rfl⟩
set_option linter.unusedVariables false in
set_option maxRecDepth 100000 in
theorem lifted (os : Os) (started : os.Started) (H : Type) (enc : TypeId × Value → H) (F : Stop.Interp) :
    ReturnsInHanded {} Tryd.checked os 5 .any ((OpenSpec.ofChange Rows.ratioTextsSpec).preRow enc Tryd.prog Tryd.f5 Rows.ratioTextsRow.domain false Rows.ratioTextsRow.laid) (((OpenSpec.ofChange Rows.ratioTextsSpec).at F).post enc Tryd.prog Tryd.f5 false true false false) := by
  obtain ⟨places, hx⟩ := reads os enc
  refine returnsInHanded_of_row (C := Tryd.checked) (s := (OpenSpec.ofChange Rows.ratioTextsSpec)) own started (by kernel_rfl) Tryd.func5
    (witness_row_at (enc := enc) (C := Tryd.checked) false (laidWorld os) #[.string ⟨#[]⟩, .agg #[.bool false, .slice none 0 0, .slice none 0 0]] rfl (by kernel_rfl) (by kernel_rfl) (by kernel_rfl)
      (OpenSpec.preRow_of_cond 8 hx (by kernel_rfl) (fun k hk => by cases hk) (by kernel_rfl) (laid_met os))) ?_
  intro W base args ds gs before hval0 hW hcnd0 hcond hsz0 hL hj2 hj3
  have hTabs : Lm.Tabs W := tabs hL
  have hval : ∀ (j : Nat) t v, Tryd.f5.params[j]? = some t → args[j]? = some v → Value.okWide Tryd.prog W .any base t v := hval0
  have hW' := hW
  obtain ⟨p, q, hA0, hV, rfl, hfz, hnd⟩ := hW
  have hA : DataW.TrodAll enc Tryd.prog W 0 (fun _ => true) true Tryd.f5.params.toList args.toList ds p := hA0
  have hsz : (DataW.weightsEach Tryd.prog (Tryd.f5.params.toList ++ Rows.ratioTextsSpec.plain.varTypes Tryd.prog) (ds ++ gs)).all (· ≤ reachBytes) = true := hsz0
  rw [Tryd.params5] at hA hval hsz
  obtain ⟨v0, vs0, d0, ds0, p0, q0, hargs, rfl, rfl, h0, r0⟩ := trodAll_cons hA
  obtain ⟨v1, vs1, d1, ds1, p1, q1, rfl, rfl, rfl, h1, r1⟩ := trodAll_cons r0
  obtain ⟨rfl, rfl, rfl⟩ := trodAll_nil r1
  obtain rfl : args = #[v0, v1] := by cases args; simp_all
  obtain ⟨rfl, rfl⟩ := trodVars_none hV
  obtain ⟨a0, rfl, rfl, rfl, w0⟩ := open_string Tryd.underlying9 (hval 0 9 v0 rfl rfl) h0
  have k1 := h1
  have lt1 : ∀ x ∈ p1, x.block < W.heap.size := by obtain ⟨m, hm⟩ := k1; exact DataW.trod_lt m _ _ _ hm
  obtain ⟨g1, a1, len1, cap1, z1, e1, l1, c1, y1, hv1, w1, b1, u1, m1⟩ : ∃ ng ao n cap zs bo m dap ys, v1 = .agg #[.bool ng, .slice ao n cap, .slice bo m dap] ∧ Lm.Sl W (.slice ao n cap) zs ∧ n ≤ 35184372088832 ∧ Lm.Sl W (.slice bo m dap) ys ∧ m ≤ 35184372088832 := by
    obtain ⟨cs, hv, hsz2⟩ := okWide_struct Tryd.underlying42 (hval 1 42 v1 rfl rfl)
    obtain ⟨c0, c1, c2, rfl⟩ := Go.Joins.array3 (hsz2.trans (by kernel_rfl : Tryd.prog.cellsOf 42 = 3))
    subst hv
    obtain ⟨fuel, hf⟩ := h1
    obtain ⟨y0, y1, n, hx, _, t0, t1⟩ := trod_struct2 Tryd.underlying42 hf
    obtain ⟨z0, z1, n2, hx2, _, s0, s1⟩ := trod_struct2 Tryd.underlying24 t0
    have kW : Tryd.prog.cellsOf 24 = 2 := by kernel_rfl
    have kS : Tryd.prog.cellsOf 22 = 1 := by kernel_rfl
    have kB : Tryd.prog.cellsOf 4 = 1 := by kernel_rfl
    have s0' : DataW.trod enc Tryd.prog W 0 (fun _ => true) true n2 4 [c0] = some z0 := by simpa [Value.cells, kW, kB] using s0
    have s1' : DataW.trod enc Tryd.prog W 0 (fun _ => true) true n2 22 [c1] = some z1 := by simpa [Value.cells, kW, kS] using s1
    have t1' : DataW.trod enc Tryd.prog W 0 (fun _ => true) true n 22 [c2] = some y1 := by simpa [Value.cells, kS] using t1
    have hd : d1 = .agg [.agg [z0.1, z1.1], y1.1] := by
      have h1 := congrArg Prod.fst hx
      have h2 := congrArg Prod.fst hx2
      simp only at h1 h2
      rw [h1, h2]
    clear s0 s1 t1 t0 hx hx2 hf
    obtain ⟨b, hb0, _⟩ := DataW.trod_bool Tryd.underlying4 s0'
    obtain rfl : c0 = .bool b := by simpa using hb0
    have num : ∃ ao n cap zs, c1 = .slice ao n cap ∧ Lm.Sl W (.slice ao n cap) zs ∧ n ≤ 35184372088832 := by
      rcases open_ints Tryd.underlying22 Tryd.underlying124 (by kernel_rfl) s1' with ⟨hcs, _⟩ | ⟨x, l, c, zs, hcs, _, hl, hm, hz, hx, hcell, hwz⟩
      · obtain rfl : c1 = .slice none 0 0 := by simpa using hcs
        exact ⟨none, 0, 0, [], rfl, ⟨none, 0, rfl, Nat.le_refl _, by simp [maxLen], Lm.limb_nil, .inl rfl⟩, by omega⟩
      · obtain rfl : c1 = .slice (some x) l c := by simpa using hcs
        have hz' : zs.length = c := by simpa using hz
        have hx1 : z1.1 = .slice (lits .u32 (zs.take l)) (lits .u32 (zs.drop l)) := congrArg Prod.fst hx
        refine ⟨some x, l, c, _, rfl, sl_of hl hm hz' hcell hwz, ?_⟩
        have hs := List.all_eq_true.1 hsz _ (DataW.weights_mem_each (j := 1) (t := 42) rfl (congrArg some hd) (((lits .u32 (zs.take l) : List (DataW H)).length + (lits .u32 (zs.drop l) : List (DataW H)).length) * Tryd.prog.bytesOf 124) (by rw [hx1]; simp [DataW.weights, DataW.weightsEach, Tryd.underlying42, Tryd.underlying24, Tryd.underlying22]))
        rw [bytes4] at hs
        simp only [lits, List.length_map, List.length_take, List.length_drop, reachBytes, decide_eq_true_eq] at hs
        omega
    have den : ∃ ao n cap zs, c2 = .slice ao n cap ∧ Lm.Sl W (.slice ao n cap) zs ∧ n ≤ 35184372088832 := by
      rcases open_ints Tryd.underlying22 Tryd.underlying124 (by kernel_rfl) t1' with ⟨hcs, _⟩ | ⟨x, l, c, zs, hcs, _, hl, hm, hz, hx, hcell, hwz⟩
      · obtain rfl : c2 = .slice none 0 0 := by simpa using hcs
        exact ⟨none, 0, 0, [], rfl, ⟨none, 0, rfl, Nat.le_refl _, by simp [maxLen], Lm.limb_nil, .inl rfl⟩, by omega⟩
      · obtain rfl : c2 = .slice (some x) l c := by simpa using hcs
        have hz' : zs.length = c := by simpa using hz
        have hx1 : y1.1 = .slice (lits .u32 (zs.take l)) (lits .u32 (zs.drop l)) := congrArg Prod.fst hx
        refine ⟨some x, l, c, _, rfl, sl_of hl hm hz' hcell hwz, ?_⟩
        have hs := List.all_eq_true.1 hsz _ (DataW.weights_mem_each (j := 1) (t := 42) rfl (congrArg some hd) (((lits .u32 (zs.take l) : List (DataW H)).length + (lits .u32 (zs.drop l) : List (DataW H)).length) * Tryd.prog.bytesOf 124) (by rw [hx1]; simp [DataW.weights, DataW.weightsEach, Tryd.underlying42, Tryd.underlying24, Tryd.underlying22]))
        rw [bytes4] at hs
        simp only [lits, List.length_map, List.length_take, List.length_drop, reachBytes, decide_eq_true_eq] at hs
        omega
    obtain ⟨ao, n1, cap, zs, rfl, hS1, hn1⟩ := num
    obtain ⟨bo, m1, dap, ys, rfl, hS2, hn2⟩ := den
    exact ⟨b, ao, n1, cap, zs, bo, m1, dap, ys, rfl, hS1, hn1, hS2, hn2⟩
  subst hv1
  clear hA0 hval0
  refine (Lm.rtexts_law W a0 g1 a1 len1 cap1 z1 _ e1 l1 c1 y1 _ (Lm.tabsR_of hTabs hj2) ⟨w1, rfl⟩ u1 rfl b1 m1).mono fun e W' ⟨he, bel⟩ => ?_
  subst he
  exact ⟨_, rfl, _, _, _, [], _, [], hW', trodAll_mk1 (shut_bool Tryd.underlying4 _), (trodAll_cons_mk (shut_string Tryd.underlying9 w0) (trodAll_cons_mk (Below.trod laidOut (by kernel_rfl) (of_decide_eq_true (by kernel_rfl)) k1 bel lt1) trodAll_mk0)), rfl, bel.frame _, fun h => by cases h⟩
theorem said : Rows.RatioTextsSaid :=
  OpenClaim.holds_of_cond 5 Tryd.f5 rfl rfl rfl rfl rfl rfl rfl ⟨rfl, rfl, rfl, rfl, rfl⟩ rfl rfl rfl rfl rfl (by kernel_rfl) Tryd.func5 (by kernel_rfl)
    (of_decide_eq_true (by kernel_rfl)) (by unfold Func.isWrapper; first | (rw [if_pos (by decide +kernel)]; kernel_rfl) | (rw [if_neg (by decide +kernel)]; exact ⟨rfl, rfl⟩))
    (fun os started H enc _ F => by rw [OpenClaim.pre_eq_preRow]; exact lifted os started H enc F)
theorem plain (f : FuncId) (fn : Func) (hf : Tryd.pinned.checked.prog.funcNamed "rafter/rafterlaw03.RatioTexts" = some f) (hfn : Tryd.pinned.checked.prog.funcs[f]? = some fn) :
    false = Tryd.pinned.checked.prog.looks [] ∧ ∀ (j : Nat) t, fn.params[j]? = some t → Tryd.pinned.checked.prog.wantsStandIn t = false := by
  obtain rfl : f = 5 := Option.some.inj ((show Tryd.prog.funcNamed "rafter/rafterlaw03.RatioTexts" = some 5 by kernel_rfl).symm.trans hf) |>.symm
  obtain rfl : fn = Tryd.f5 := (Option.some.inj (Tryd.func5.symm.trans hfn)).symm
  refine ⟨by kernel_rfl, fun j t ht => ?_⟩
  rw [Tryd.params5] at ht
  have hm := Array.mem_of_getElem? ht
  simp at hm
  rcases hm with rfl | rfl
  · exact (show Tryd.prog.wantsStandIn 9 = false by kernel_rfl)
  · exact (show Tryd.prog.wantsStandIn 42 = false by kernel_rfl)
theorem card : Rows.RatioTextsCardSaid :=
  Claim7.holds_tied_plain_at .later [] _ _ _ _ said (fun _ h => by cases h) (by kernel_rfl) (fun _ h => by cases h) ratioTexts_row_tie rfl ⟨rfl, rfl⟩ (by kernel_rfl) rfl plain (by kernel_rfl)
end ratioTextsLaw
theorem ratioTexts_card : Rows.RatioTextsCardSaid := ratioTextsLaw.card
#print axioms ratioTexts_card
end Go.Proofs.YtdiiankcjgoecaaDoor

