/-
  The given statement on MatrixDual, for every input: the call answers true, and each argument reads behind it as it read before. No condition beyond the statement's own. Beside it: Package matrix: across. Package matrix: Kernel. Package matrix: Inside. MatrixSpace: other rows of the same row space have the same echelon form. The products of two rows, together, as the laws of matrix reckon them. What MatrixForms and MatrixDual ask: rows that are told are short; Echelon of rows without a shape; a product of rows as one operation. The law on the kernel's kernel, and on what is Inside. LenWholes and LenRows of rows of any length: what they answer is the length as an int. The law on the kernel's kernel, and on what is Inside, for rows of any length.
-/
import Derived.Test.YtnomflballofiaaGreatRows
import Derived.ProofKit
import Derived.OpenShut
import Derived.ShutString
import Derived.ChangeOld
import Derived.SizedLaws
import Derived.Test.YtnomflballofiaaGreatMFdsLawZ3
namespace Go.Proofs.YtnomflballofiaaGreat
namespace Lm
open Go Go.RowKit Md
open Dm (WFr)
theorem wfr_none (w : World) : WFr 0 0 w false none 0 [] 0 := ⟨⟨ow_none 0 w, ⟨fun z hz => (by cases hz), rfl⟩, rfl, fun h => (by omega)⟩, by decide⟩
def ZE (w : World) (bv : Nat) (zs : List Int) (L : Nat) : Prop := ∃ es : List WE, w.heap[bv]? = some (.cells (flat es).toArray 38 (0, 0)) ∧ es.length = zs.length ∧ ∀ (k : Nat) (e : WE) (z : Int), es[k]? = some e → zs[k]? = some z → ∃ B T, WFr B T w e.ng e.a e.c e.zs z ∧ e.m = e.zs.length ∧ e.zs.length ≤ L ∧ T ≤ w.heap.size
theorem ZE.lt {w : World} {bv : Nat} {zs : List Int} {L : Nat} (h : ZE w bv zs L) : bv < w.heap.size := by
  obtain ⟨es, h1, _⟩ := h
  exact lt_of_heap h1
theorem ZE.below {w w' : World} {bv : Nat} {zs : List Int} {L : Nat} (h : ZE w bv zs L) (hb : Below w.heap.size w w') : ZE w' bv zs L := by
  obtain ⟨es, h1, h2, h3⟩ := h
  refine ⟨es, (hb.block bv (lt_of_heap h1)).trans h1, h2, fun k e z he hz => ?_⟩
  obtain ⟨B, T, g1, g2, g3, g4⟩ := h3 k e z he hz
  exact ⟨B, T, g1.below hb, g2, g3, Nat.le_trans g4 hb.size⟩
theorem ZE.tch {g : Nat} {w w' : World} {bv : Nat} {zs : List Int} {L : Nat} {c : Array Value} (h : ZE w bv zs L) (ht : Tch g w w') (hg : w.heap[g]? = some (.cells c 34 (0, 0))) : ZE w' bv zs L := by
  obtain ⟨es, h1, h2, h3⟩ := h
  refine ⟨es, ht.blk h1 (ne_of_type hg h1 (by decide)), h2, fun k e z he hz => ?_⟩
  obtain ⟨B, T, g1, g2, g3, g4⟩ := h3 k e z he hz
  exact ⟨B, T, wfr_tch g1 ht hg (by decide), g2, g3, Nat.le_trans g4 ht.size⟩
theorem ZE.start {w : World} {bv n : Nat} {L : Nat} (h : w.heap[bv]? = some (.cells (flat (List.replicate n ⟨false, none, 0, 0, []⟩)).toArray 38 (0, 0))) : ZE w bv (List.replicate n 0) L := by
  refine ⟨_, h, by simp, fun k e z he hz => ?_⟩
  rw [List.getElem?_replicate] at he hz
  split at he
  · rename_i hk
    rw [if_pos hk] at hz
    obtain rfl := Option.some.inj he
    obtain rfl := Option.some.inj hz
    exact ⟨0, 0, wfr_none w, rfl, Nat.zero_le _, Nat.zero_le _⟩
  · cases he
theorem ZE.cells {w : World} {bv : Nat} {zs : List Int} {L : Nat} (h : ZE w bv zs L) {k : Nat} (hk : k < zs.length) : (∃ ng a m c, w.cell? ⟨bv, k * 2, none⟩ = some (.bool ng) ∧ w.cell? ⟨bv, k * 2 + 1, none⟩ = some (.slice a m c)) ∧ w.frozen? ⟨bv, k * 2, none⟩ = false ∧ w.frozen? ⟨bv, k * 2 + 1, none⟩ = false := by
  obtain ⟨es, h2, h1, _⟩ := h
  obtain ⟨e, he⟩ : ∃ e, es[k]? = some e := ⟨_, List.getElem?_eq_getElem (by omega)⟩
  obtain ⟨f1, f2⟩ := flat_at he
  exact ⟨⟨e.ng, e.a, e.m, e.c, by rw [cell_of_row _ _ _ _ _ (0, 0) h2, List.getElem?_toArray]; exact f1, by rw [cell_of_row _ _ _ _ _ (0, 0) h2, List.getElem?_toArray]; exact f2⟩, frozen_of_row _ _ _ _ _ h2, frozen_of_row _ _ _ _ _ h2⟩
theorem ZE.put {w : World} {bv : Nat} {zs : List Int} {L : Nat} (h : ZE w bv zs L) {k : Nat} (hk : k < zs.length) {z : Int} {ng : Bool} {a : Option Addr} {m c K : Nat} (hv : FrW K z L (.agg #[.bool ng, .slice a m c]) w) :
    ZE ((w.setCell ⟨bv, k * 2, none⟩ (.bool ng)).setCell ⟨bv, k * 2 + 1, none⟩ (.slice a m c)) bv (zs.set k z) L ∧ Tch bv w ((w.setCell ⟨bv, k * 2, none⟩ (.bool ng)).setCell ⟨bv, k * 2 + 1, none⟩ (.slice a m c)) := by
  obtain ⟨es, h1, h2, h3⟩ := h
  obtain ⟨ng', ao', cap', rs, B', T', hv1, hv2, hv3, hv4, hv5⟩ := hv
  simp only [Value.agg.injEq, Array.mk.injEq, List.cons.injEq, Value.bool.injEq, Value.slice.injEq, and_true] at hv1
  obtain ⟨rfl, rfl, rfl, rfl⟩ := hv1
  have ht := put2_tch w bv k ⟨ng, a, rs.length, c, rs⟩
  refine ⟨⟨es.set k ⟨ng, a, rs.length, c, rs⟩, ?_, by simp [h2], fun i e y he hy => ?_⟩, ht⟩
  · rw [flat_set es k _ (by omega)]
    have s1 := heap_setCell_same w bv (k * 2) _ _ (.bool ng) h1
    have s2 := heap_setCell_same _ bv (k * 2 + 1) _ _ (.slice a rs.length c) s1
    rw [s2]
    simp
  · by_cases hik : i = k
    · subst hik
      rw [List.getElem?_set_self (by omega)] at he
      rw [List.getElem?_set_self (by omega)] at hy
      obtain rfl := Option.some.inj he
      obtain rfl := Option.some.inj hy
      exact ⟨B', T', wfr_tch hv2 ht h1 (by decide), rfl, hv5, Nat.le_trans hv4 ht.size⟩
    · rw [List.getElem?_set_ne (fun h => hik h.symm)] at he hy
      obtain ⟨B, T, g1, g2, g3, g4⟩ := h3 i e y he hy
      exact ⟨B, T, wfr_tch g1 ht h1 (by decide), g2, g3, Nat.le_trans g4 ht.size⟩
theorem ZE.is {w : World} {bv : Nat} {zs : List Int} {L : Nat} (h : ZE w bv zs L) (hl : zs.length ≤ 1000000) : IsRow w (.slice (some ⟨bv, 0, none⟩) zs.length zs.length) zs L := by
  obtain ⟨es, e2, e1, e4⟩ := h
  have hz : ∀ (k : Nat) (e : WE), es[k]? = some e → ∃ z, zs[k]? = some z ∧ (∃ B T, WFr B T w e.ng e.a e.c e.zs z) ∧ e.m = e.zs.length ∧ e.zs.length ≤ L := by
    intro k e he
    have hk := (List.getElem?_eq_some_iff.1 he).1
    obtain ⟨z, hz⟩ : ∃ z, zs[k]? = some z := ⟨_, List.getElem?_eq_getElem (by omega)⟩
    obtain ⟨B, T, g1, g2, g3, _⟩ := e4 k e z he hz
    exact ⟨z, hz, ⟨B, T, g1⟩, g2, g3⟩
  refine ⟨es, ⟨⟨_, _, by rw [e1], by omega, by omega, flat_length es, ?_⟩, ?_⟩, ?_, ?_⟩
  · refine .inr ⟨bv, 0, rfl, lt_of_heap e2, fun j u hu => ?_⟩
    rw [Nat.zero_add, cell_of_row _ _ _ _ _ (0, 0) e2, List.getElem?_toArray]
    exact hu
  · intro e he
    obtain ⟨k, hk⟩ := List.mem_iff_getElem?.1 he
    obtain ⟨z, _, ⟨B, T, g1⟩, g2, _⟩ := hz k e hk
    have := g1.wh.sl
    rwa [← g2] at this
  · apply List.ext_getElem?
    intro k
    rw [List.getElem?_map]
    cases hk : es[k]? with
    | none =>
      rw [List.getElem?_eq_none_iff] at hk
      rw [Option.map_none, eq_comm, List.getElem?_eq_none_iff]
      omega
    | some e =>
      obtain ⟨z, h1, ⟨B, T, g1⟩, g2, _⟩ := hz k e hk
      rw [h1, Option.map_some]
      congr 1
      exact g1.wh.worth
  · intro e he
    obtain ⟨k, hk⟩ := List.mem_iff_getElem?.1 he
    obtain ⟨z, _, _, _, g3⟩ := hz k e hk
    exact g3
def ZRow (K : Nat) (w : World) (v : Value) (zs : List Int) (L : Nat) : Prop := ∃ bv, v = .slice (some ⟨bv, 0, none⟩) zs.length zs.length ∧ K ≤ bv ∧ zs.length ≤ 1000000 ∧ ZE w bv zs L
theorem ZRow.below {K : Nat} {w w' : World} {v : Value} {zs : List Int} {L : Nat} (h : ZRow K w v zs L) (hb : Below w.heap.size w w') : ZRow K w' v zs L := by
  obtain ⟨bv, e, hK, hl, h⟩ := h
  exact ⟨bv, e, hK, hl, h.below hb⟩
theorem ZRow.is {K : Nat} {w : World} {v : Value} {zs : List Int} {L : Nat} (h : ZRow K w v zs L) : IsRow w v zs L := by
  obtain ⟨bv, rfl, hK, hl, h⟩ := h
  exact h.is hl
theorem ZRow.grown {K : Nat} {w w' : World} {v u : Value} {n : Nat} {xs : List Value} {z : List Int} {L : Nat} (h : ZRow K w u z L) (ho : w.ownsRow K 34 1 v n xs) (hg : w.grownBy w' v.ownBlock) : ZRow K w' u z L := by
  obtain ⟨_, ⟨rfl, _⟩ | ⟨g, cap, cur, rfl, _, hh, _⟩⟩ := ho
  · exact h.below ((Below.refl _ _).grown hg (Nat.le_refl _) (fun k hk => by cases hk))
  · obtain ⟨bv, e, hK, hl, h⟩ := h
    exact ⟨bv, e, hK, hl, h.tch (Tch.of_grown hg (fun k hk => (Option.some.inj hk).symm)) hh⟩
def OwZ (K : Nat) (w : World) (rv : Value) (rows : List (List Int)) (L : Nat) : Prop := ∃ vs : List Value, w.ownsRow K 34 1 rv rows.length vs ∧ ∀ (i : Nat) (u : Value) (z : List Int), vs[i]? = some u → rows[i]? = some z → ZRow K w u z L
theorem OwZ.below {K : Nat} {w w' : World} {rv : Value} {rows : List (List Int)} {L : Nat} (h : OwZ K w rv rows L) (hb : Below w.heap.size w w') : OwZ K w' rv rows L := by
  obtain ⟨vs, h1, h2⟩ := h
  exact ⟨vs, owns_below h1 hb, fun i u z hu hz => (h2 i u z hu hz).below hb⟩
theorem OwZ.is {K : Nat} {w : World} {rv : Value} {rows : List (List Int)} {L : Nat} (h : OwZ K w rv rows L) : IsM w rv rows L := by
  obtain ⟨vs, h1, h2⟩ := h
  exact ⟨vs, Ce.own h1, fun i u z hu hz => (h2 i u z hu hz).is⟩
theorem OwZ.app {K : Nat} {w w' : World} {v v' u : Value} {rows : List (List Int)} {vs : List Value} {z : List Int} {L : Nat} (hv : w.ownsRow K 34 1 v rows.length vs) (hr : ∀ (i : Nat) (u : Value) (z : List Int), vs[i]? = some u → rows[i]? = some z → ZRow K w u z L) (hu : ZRow K w u z L) (ho : w'.ownsRow K 34 1 v' (rows.length + 1) (vs ++ [u])) (hg : w.grownBy w' v.ownBlock) : OwZ K w' v' (rows ++ [z]) L := by
  have hvl : vs.length = rows.length := by simpa using hv.1
  refine ⟨vs ++ [u], by simpa using ho, fun i x y hx hy => ?_⟩
  by_cases hi : i < rows.length
  · rw [List.getElem?_append_left (by omega)] at hx hy
    exact (hr i x y hx hy).grown hv hg
  · by_cases he : i = rows.length
    · subst he
      rw [List.getElem?_append_right (Nat.le_refl _)] at hy
      rw [List.getElem?_append_right (by omega), hvl] at hx
      simp at hx hy
      subst hx hy
      exact hu.grown hv hg
    · rw [List.getElem?_eq_none (by simp; omega)] at hy
      cases hy
def acp (n : Nat) (R : List Md.Rw) (Q : List Nat) (c i : Nat) : List Int := gRow (fun k => if k = c then D R Q else if k ∈ Q.reverse.take i then -D R (sub k c Q) else 0) n
theorem acp_start {n : Nat} {R : List Md.Rw} {Q : List Nat} {c : Nat} (hc : c < n) : (List.replicate n 0).set c (D R Q) = acp n R Q c 0 := by
  apply List.ext_getElem?
  intro k
  unfold acp
  by_cases hk : k < n
  · rw [gRow_at hk]
    by_cases e : k = c
    · subst e
      rw [List.getElem?_set_self (by simpa using hk), if_pos rfl]
    · rw [List.getElem?_set_ne (fun h => e h.symm), List.getElem?_replicate, if_pos hk, if_neg e, if_neg (by simp)]
  · rw [List.getElem?_eq_none (by simp; omega), List.getElem?_eq_none (by rw [gRow_len]; omega)]
theorem acp_next {n : Nat} {R : List Md.Rw} {Q : List Nat} {c i p : Nat} (hp : Q.reverse[i]? = some p) (hpn : p < n) (hcQ : c ∉ Q) : (acp n R Q c i).set p (-D R (sub p c Q)) = acp n R Q c (i + 1) := by
  have hpQ : p ∈ Q := List.mem_reverse.1 (List.mem_of_getElem? hp)
  apply List.ext_getElem?
  intro k
  unfold acp
  by_cases hk : k < n
  · by_cases e : k = p
    · subst e
      rw [List.getElem?_set_self (by rw [gRow_len]; exact hk), gRow_at hk, if_neg (fun e => hcQ (by rw [← e]; exact hpQ)), if_pos ((take_succ_mem hp).2 (.inr rfl))]
    · rw [List.getElem?_set_ne (fun h => e h.symm), gRow_at hk, gRow_at hk]
      congr 1
      by_cases e2 : k = c
      · rw [if_pos e2, if_pos e2]
      · rw [if_neg e2, if_neg e2]
        by_cases e3 : k ∈ Q.reverse.take i
        · rw [if_pos e3, if_pos ((take_succ_mem hp).2 (.inl e3))]
        · rw [if_neg e3, if_neg (fun h => ((take_succ_mem hp).1 h).elim e3 e)]
  · rw [List.getElem?_eq_none (by simp [gRow_len]; omega), List.getElem?_eq_none (by rw [gRow_len]; omega)]
theorem acp_done {n : Nat} {R : List Md.Rw} {Q : List Nat} {c : Nat} : acp n R Q c Q.length = gRow (acr R Q c) n := by
  unfold acp acr
  rw [List.take_of_length_le (by simp)]
  simp only [List.mem_reverse]
def acrT (n : Nat) (R : List Md.Rw) (Q : List Nat) (k : Nat) : List (List Int) := ((List.range k).filter (fun c => decide (c ∉ Q))).map (fun c => gRow (acr R Q c) n)
theorem acrT_in {n : Nat} {R : List Md.Rw} {Q : List Nat} {k : Nat} (h : k ∈ Q) : acrT n R Q (k + 1) = acrT n R Q k := by
  unfold acrT
  rw [List.range_succ, List.filter_append]
  simp [h]
theorem acrT_out {n : Nat} {R : List Md.Rw} {Q : List Nat} {k : Nat} (h : k ∉ Q) : acrT n R Q (k + 1) = acrT n R Q k ++ [gRow (acr R Q k) n] := by
  unfold acrT
  rw [List.range_succ, List.filter_append]
  simp [h]
theorem acrT_len (n : Nat) (R : List Md.Rw) (Q : List Nat) (k : Nat) : (acrT n R Q k).length ≤ k := by
  unfold acrT
  rw [List.length_map]
  have := List.length_filter_le (fun c => decide (c ∉ Q)) (List.range k)
  simpa using this
theorem infoSz2 : (Tryz.prog.info? 34).map (fun i => (i.zero, i.size, i.bytes)) = some (some (.slice none 0 0), 1, 24) := by kernel_rfl
set_option maxRecDepth 20000 in
set_option maxHeartbeats 16000000 in
theorem across_any (w : World) (q n L : Nat) (R : List Md.Rw) (Q : List Nat) (ra pa la : Option Addr) (rc pc lm lc : Nat) (ng : Bool) (hq : w.heap[q]? = some (.cells #[.slice ra Q.length rc, .slice pa Q.length pc, .bool ng, .slice la lm lc] 54 (0, 0))) (hM : IsM w (.slice ra Q.length rc) (baR R Q n) L) (hP : IsP w (.slice pa Q.length pc) Q.reverse) (hF : FrW 0 (D R Q) L (.agg #[.bool ng, .slice la lm lc]) w) (hQ : ∀ p ∈ Q, p < n) (hn : n ≤ 1000) (hL : L ≤ 400000) :
    Calls Tryz.prog 29 #[.pointer (some ⟨q, 0, none⟩), .int .i64 (n : Int)] w fun e w' => ∃ r, e = .returned r ∧ IsM w' r (acrR n R Q) L ∧ Below w.heap.size w w' := by
  obtain ⟨iW, hi, hz0, hz1, hz2⟩ := info_parts infoWz
  obtain ⟨iS, si, sz0, sz1, sz2⟩ := info_parts infoSz2
  have HQ := hide hq
  have HM := hide hM
  have HP := hide hP
  have HF := hide hF
  have HQn := hide hQ
  have hql := lt_of_heap hq
  have hQl : Q.length ≤ 9223372036854775807 := by obtain ⟨_, _, _, h⟩ := hP.parts; simpa using h
  clear hq hM hP hF hQ
  go_enter Tryz.func29, Tryz.ntmps29
  go_wp2
  go_loopw [5, 6, 7, 8, 9, 11] (fun ov _ _ _ _ iv wr => ∃ (k : Nat), iv = .int .i64 k ∧ k ≤ n ∧ Below w.heap.size w wr ∧ OwZ w.heap.size wr ov (acrT n R Q k) L) (fun _ _ _ _ _ iv _ => n - (intOf iv).toNat)
  case atStart => exact ⟨0, rfl, Nat.zero_le _, Below.refl _ _, ⟨[], World.ownsRow_nil _ _ _ _, fun i u z hu => (by simp at hu)⟩⟩
  case round =>
    obtain ⟨k, rfl, hk, hbw, hO⟩ := hrel
    obtain ⟨oa, oc, rfl, hol⟩ := hO.is.parts
    have HW := hide hbw
    have HO := hide hO
    have hq1 := (hbw.block q hql).trans HQ.out
    have hqw : q < wr.heap.size := Nat.lt_of_lt_of_le hql hbw.size
    have q0 := cell_of_row _ _ 0 _ _ (0, 0) hq1
    have q1 := cell_of_row _ _ 1 _ _ (0, 0) hq1
    have q2 := cell_of_row _ _ 2 _ _ (0, 0) hq1
    have q3 := cell_of_row _ _ 3 _ _ (0, 0) hq1
    simp at q0 q1 q2 q3
    by_cases hlt : k < n
    · have hlt' : (k : Int) < (n : Int) := by omega
      have KC := contains_any wr pa Q.length pc _ (k : Int) (HP.out.below hbw).nums
      by_cases hkQ : k ∈ Q
      · rw [decide_eq_true ((mem_cast k Q.reverse).2 (List.mem_reverse.2 hkQ))] at KC
        have KC := hide KC
        clear hbw hO hq1
        go_wp2_with fail
        refine KC.out.mono ?_
        rintro e w1 ⟨rfl, rfl⟩
        clear KC
        go_wp2
        go_roundw
        case rel => exact ⟨k + 1, by go_num, by omega, HW.out, by rw [acrT_in hkQ]; exact HO.out⟩
        case measure => simp [intOf]; omega
      · rw [decide_eq_false (fun h => hkQ (List.mem_reverse.1 ((mem_cast k Q.reverse).1 h)))] at KC
        have KC := hide KC
        clear hbw hO hq1
        go_wp2_with fail
        refine KC.out.mono ?_
        rintro e w1 ⟨rfl, rfl⟩
        clear KC
        go_wp2_with (refine wpList_make_full _ rfl (.tmp 20) (.tmp 20) 34 rfl w1.heap.size 38 iW (.agg #[.bool false, .slice none 0 0]) 2 Tryz.underlying34 hi hz0 hz1 .i64 .i64 _ _ n rfl rfl (by omega) (by omega) (by rw [hz2]; omega) (by unfold maxLen; omega) (Nat.le_refl _) ?hK)
        case hK =>
          intro w2 hown hgrow
          have hb2 : Below w1.heap.size w1 w2 := (Below.refl _ _).grown hgrow (Nat.le_refl _) (by simp)
          obtain ⟨_, hmb⟩ := made_block hown
          rw [made_two] at hmb
          have hZ0 := ZE.start (L := L) hmb
          obtain ⟨⟨ngp, ap, mp, cp, p0, p1⟩, pf0, pf1⟩ := hZ0.cells (k := k) (by simp; omega)
          have hput := hZ0.put (k := k) (by simp; omega) (HF.out.ru (Ru.of_below (HW.out.trans (hb2.mono HW.out.size))))
          rw [acp_start hlt] at hput
          have hB3 := hb2.trans (hput.2.below hb2.size (Nat.le_refl _))
          have HS := hide (And.intro hput.1 hB3)
          replace q1 := (hb2.cell (p := ⟨q, 1, none⟩) hqw).trans q1
          replace q2 := (hb2.cell (p := ⟨q, 2, none⟩) hqw).trans q2
          replace q3 := (hb2.cell (p := ⟨q, 3, none⟩) hqw).trans q3
          have hzl := hZ0.lt
          clear hown hgrow hmb hZ0 hput hB3 hb2
          have hne : ¬ q = w1.heap.size := by omega
          go_wp2
          go_loopw [8, 9, 34] (fun _ _ jv wj => ∃ (j : Nat), jv = .int .i64 (j : Int) ∧ j ≤ Q.length ∧ Below w1.heap.size w1 wj ∧ ZE wj w1.heap.size (acp n R Q k j) L) (fun _ _ jv _ => Q.length - (intOf jv).toNat)
          case atStart => exact ⟨0, rfl, Nat.zero_le _, HS.out.2, HS.out.1⟩
          case round =>
            obtain ⟨j, rfl, hj, hbj, hZ⟩ := hrel
            have HBJ := hide hbj
            have HZ := hide hZ
            clear q1 q2 q3 p0 p1 pf0 pf1
            by_cases hjl : j < Q.length
            · have hjl' : (j : Int) < (Q.length : Int) := by omega
              have HJ := hide hjl
              obtain ⟨p, hp⟩ : ∃ p, Q.reverse[j]? = some p := ⟨_, List.getElem?_eq_getElem (by simp; omega)⟩
              have hpn : p < n := HQn.out p (List.mem_reverse.1 (List.mem_of_getElem? hp))
              have hpn' : (p : Int) < (n : Int) := by omega
              obtain ⟨pb, po, rfl, hpl, y0⟩ := HP.out.cell hp
              have hb0j := HW.out.trans (hbj.mono HW.out.size)
              replace y0 := (hb0j.cell (p := ⟨pb, po + j, none⟩) hpl).trans y0
              have hrow : (baR R Q n)[j]? = some (gRow (fun k => D R (sub p k Q)) n) := by
                unfold baR
                rw [List.getElem?_map, hp]; rfl
              obtain ⟨rb, ro, u, rfl, hrl, z0, hu⟩ := HM.out.cell hrow
              replace z0 := (hb0j.cell (p := ⟨rb, ro + j, none⟩) hrl).trans z0
              obtain ⟨ua, uc, rfl, _⟩ := hu.parts
              rw [gRow_len] at hu z0
              obtain ⟨bx, ox, ngx, axx, mxx, cxx, rfl, hxl, x0, x1, hx⟩ := hu.cell (gRow_at (g := fun k => D R (sub p k Q)) hlt)
              replace x0 := (hb0j.cell (p := ⟨bx, ox + k * 2, none⟩) hxl).trans x0
              replace x1 := (hb0j.cell (p := ⟨bx, ox + k * 2 + 1, none⟩) hxl).trans x1
              have KN := hide (negF _ _ _ L (hx.ru (Ru.of_below hb0j)) hL)
              have q0 := (hbj.cell (p := ⟨q, 0, none⟩) hqw).trans q0
              have HPP := hide hp
              clear hbj hZ hp hrow hu hx hb0j
              go_wp2_with fail
              refine KN.out.mono ?_
              rintro e w4 ⟨v4, rfl, h4, hb4⟩
              obtain ⟨ng4, a4, m4, c4, rfl⟩ := h4.agg
              have hZ4 := HZ.out.below hb4
              have hal : (acp n R Q k j).length = n := gRow_len _ _
              obtain ⟨⟨ngp, ap, mp, cp, p0, p1⟩, pf0, pf1⟩ := hZ4.cells (k := p) (by omega)
              have hput := hZ4.put (k := p) (by omega) h4
              rw [acp_next HPP.out hpn hkQ] at hput
              have hB4 := HBJ.out.trans (hb4.mono HBJ.out.size)
              have HS4 := hide (And.intro hput.1 (hB4.trans (hput.2.below hB4.size (Nat.le_refl _))))
              have hzl4 := hZ4.lt
              clear h4 hb4 hZ4 hput hB4 KN y0 z0 x0 x1 q0
              go_wp2
              go_roundw
              case rel => exact ⟨j + 1, by go_num, HJ.out, HS4.out.2, HS4.out.1⟩
              case measure => have := HJ.out; simp [intOf]; omega
            · have hjl' : decide ((j : Int) < (Q.length : Int)) = false := by simp; omega
              have hje : j = Q.length := by omega
              subst hje
              rw [acp_done] at hZ
              have hrl : (gRow (acr R Q k) n).length = n := gRow_len _ _
              have hZR : ZRow w.heap.size wr (.slice (some ⟨w1.heap.size, 0, none⟩) n n) (gRow (acr R Q k) n) L := ⟨w1.heap.size, by rw [hrl], HW.out.size, by rw [hrl]; omega, hZ⟩
              obtain ⟨vs, hvs, hvr⟩ := HO.out.below hbj
              obtain ⟨kl, hkl⟩ : ∃ kl, (acrT n R Q k).length = kl := ⟨_, rfl⟩
              have hkll := acrT_len n R Q k
              rw [hkl] at hvs hkll ⊢
              have HV := hide (And.intro hvs (And.intro hvr (And.intro hZR hkl)))
              have hbl4 := hAl wr (.cells #[.slice (some ⟨w1.heap.size, 0, none⟩) n n] 34)
              have hlow := Nat.le_trans HW.out.size hbj.size
              clear hvr hZR hZ hbj hkl HZ
              go_wp2_with (at_builtin; refine wpList_append_own _ rfl (.tmp 54) (.tmp 56) 22 rfl w.heap.size 34 iS (.slice none 0 0) 1 24 Tryz.underlying22 si sz0 sz1 sz2 rfl (by decide) _ _ _ rfl (hvs.alloc _) ⟨wr.heap.size, 0, none⟩ 1 1 [.slice (some ⟨w1.heap.size, 0, none⟩) n n] rfl rfl (cell_one_new _ _ _) ?c2 ?c3 ?c4 ?c5 ?_)
              case c2 => first | rfl | (intro x hx; simp at hx; subst hx; rfl)
              case c3 => unfold maxLen; omega
              case c4 => omega
              case c5 => simp; omega
              intro v5 w5 hown5 hgrow5 _
              obtain ⟨hv1, hv2, hv3, hv4⟩ := HV.out
              have hA := OwZ.app (v := .slice oa kl oc) (rows := acrT n R Q k) (by rw [hv4]; exact hv1.alloc _) (fun i u z a b => (hv2 i u z a b).below hbl4) (hv3.below hbl4) (by rw [hv4]; exact hown5) hgrow5
              have hbx : Below w.heap.size w w5 := (HW.out.trans (HBJ.out.mono HW.out.size)).trans ((hbl4.mono hlow).trans ((Below.refl _ _).grown hgrow5 (Nat.le_trans hlow hbl4.size) (fun j hj => (hv1.lt j hj).1)))
              rw [← acrT_out hkQ] at hA
              have HFin := hide (And.intro hA hbx)
              clear hown5 hgrow5 hv1 hv2 hv3 hv4 hA hbx hvs hbl4
              go_wp2
              go_roundw
              case rel => exact ⟨k + 1, by go_num, by omega, HFin.out.2, HFin.out.1⟩
              case measure => simp [intOf]; omega
    · have hlt' : decide ((k : Int) < (n : Int)) = false := by simp; omega
      have hkn : k = n := by omega
      subst hkn
      have HFin := hide (And.intro hO.is hbw)
      clear hbw hO hq1 q0 q1 q2 q3
      go_wp2
      refine bodyPost_ret (v := _) (by simp [results, Tryz.results29, go_sem]; try rfl) rfl ⟨_, rfl, HFin.out.1, HFin.out.2⟩
end Lm
end Go.Proofs.YtnomflballofiaaGreat

namespace Go.Proofs.YtnomflballofiaaGreat
namespace Lm
open Go Go.RowKit Md
def KerOut (K : Nat) (w' : World) (n L0 : Nat) (rows : List (List Int)) (e : Ending) : Prop := ∃ R Q, Ech n (mir rows) R Q ∧ (((∃ r ∈ elR n (kerE n R Q), r.any big = true) ∧ e = .returned (.tuple #[.slice none 0 0, .int .i64 2])) ∨ ((∀ r ∈ elR n (kerE n R Q), r.any big = false) ∧ ∃ rv, e = .returned (.tuple #[rv, .int .i64 0]) ∧ OwM K w' rv (elR n (kerE n R Q)) (lg L0)))
theorem free_le (n : Nat) (Q : List Nat) : (free n Q).length ≤ n := by
  unfold free
  have := List.length_filter_le (fun c => decide (c ∉ Q)) (List.range n)
  simpa using this
set_option maxRecDepth 20000 in
set_option maxHeartbeats 8000000 in
theorem mkernel_any (w : World) (v : Value) (rows : List (List Int)) (n L0 : Nat) (h : IsM w v rows L0) (hs : Shaped rows (n : Int)) (hL0 : L0 ≤ 1510) :
    Calls Tryz.prog 11 #[v, .int .i64 (n : Int)] w fun e w' => KerOut w.heap.size w' n L0 rows e ∧ Below w.heap.size w w' := by
  have K0 := mshaped_any w v rows L0 h (n : Int)
  rw [decide_eq_true hs] at K0
  have K0 := hide K0
  have hrn : ∀ r ∈ rows, r.length = n := fun r hr => by have := hs.2.2.2 r hr; omega
  have hs2 : Shaped (mir rows) (n : Int) := ⟨hs.1, hs.2.1, by rw [mir_len]; exact hs.2.2.1, fun r hr => by rw [mir_row hrn r hr]⟩
  have hn32 := hs.2.1
  have K1 : Hid (∀ w1, Below w.heap.size w w1 → _) := (fun w1 hb => mirrored_any w1 v rows L0 (h.below hb) (fun r hr => by rw [hrn r hr]; omega) (by have := hs.2.2.1; omega))
  have HS2 := hide hs2
  obtain ⟨ao, cp, rfl, hn⟩ := h.parts
  clear h hs hrn hs2
  go_enter Tryz.func11, Tryz.ntmps11
  go_wp2_with fail
  refine K0.out.mono ?_
  rintro e w1 ⟨rfl, hb1⟩
  have K2 := hide (K1.out w1 hb1)
  have HB1 := hide hb1
  clear hb1 K0 K1
  go_wp2_with fail
  refine K2.out.mono ?_
  rintro e w2 ⟨r2, rfl, hM2, hb2⟩
  have K3 := hide (gather_sh w2 r2 (mir rows) n L0 hM2 HS2.out hL0)
  have HB2 := hide (HB1.out.trans (hb2.mono HB1.out.size))
  obtain ⟨ra2, rc2, rfl, _⟩ := hM2.parts
  clear hM2 hb2 K2
  go_wp2_with fail
  refine K3.out.mono ?_
  rintro e w3 ⟨R, Q, ra, rc, pa, pc, ng, la, lm, lc, rfl, hE, hM, hP, hF, hb3⟩
  have hba := hAl w3 (.cells #[.slice ra Q.length rc, .slice pa Q.length pc, .bool ng, .slice la lm lc] 54)
  have hn3 := heap_alloc_new w3 (.cells #[.slice ra Q.length rc, .slice pa Q.length pc, .bool ng, .slice la lm lc] 54)
  have K4 := hide (across_any _ w3.heap.size n (lg L0) R Q ra pa la rc pc lm lc ng hn3 (hM.is.below hba) (hP.is.below hba) ((hF.ru (Ru.of_below hba)).low (Nat.zero_le _)) hE.gat.lt (by omega) (by unfold lg; omega))
  have hb03 := HB2.out.trans (hb3.mono HB2.out.size)
  have HB3 := hide (hb03.trans (hba.mono hb03.size))
  have HE := hide hE
  clear hE hM hP hF hb3 hba hn3 hb03 K3
  go_wp2_with fail
  refine K4.out.mono ?_
  rintro e w4 ⟨r4, rfl, hM4, hb4⟩
  have K5 := hide (mirrored_any w4 r4 (acrR n R Q) (lg L0) hM4 (fun r hr => by rw [acrR_row r hr]; omega) (by unfold acrR; rw [List.length_map]; have := free_le n Q; omega))
  have HB4 := hide (HB3.out.trans (hb4.mono HB3.out.size))
  obtain ⟨ra4, rc4, rfl, _⟩ := hM4.parts
  clear hM4 hb4 K4
  go_wp2_with fail
  refine K5.out.mono ?_
  rintro e w5 ⟨r5, rfl, hM5, hb5⟩
  have K6 := mtold_any w5 r5 (mir (acrR n R Q)) (lg L0) hM5 (fun r hr => by rw [mir_row acrR_row r hr]; omega) (by rw [mir_len]; unfold acrR; rw [List.length_map]; have := free_le n Q; omega) (by unfold lg; omega)
  rw [big_map, big_map', kr_el] at K6
  have K6 := hide K6
  have HB5 := hide (HB4.out.trans (hb5.mono HB4.out.size))
  obtain ⟨ra5, rc5, rfl, _⟩ := hM5.parts
  clear hM5 hb5 K5
  go_wp2_with fail
  refine K6.out.mono ?_
  rintro e w6 ⟨hb6, ⟨hex, rfl⟩ | ⟨hal, rv, rfl, hO⟩⟩
  · have HB := hide (HB5.out.trans (hb6.mono HB5.out.size))
    have HX := hide hex
    clear hb6 hex K6
    go_wp2
    refine bodyPost_ret (v := _) (by simp [results, Tryz.results11, go_sem]; try rfl) rfl ⟨⟨R, Q, HE.out, .inl ⟨HX.out, rfl⟩⟩, HB.out⟩
  · have HB := hide (HB5.out.trans (hb6.mono HB5.out.size))
    have HX := hide hal
    have HO := hide (hO.low HB5.out.size)
    obtain ⟨oa, oc, rfl, _⟩ := hO.is.parts
    clear hb6 hal hO K6
    go_wp2
    refine bodyPost_ret (v := _) (by simp [results, Tryz.results11, go_sem]; try rfl) rfl ⟨⟨R, Q, HE.out, .inr ⟨HX.out, _, rfl, HO.out⟩⟩, HB.out⟩
end Lm
end Go.Proofs.YtnomflballofiaaGreat

namespace Go.Proofs.YtnomflballofiaaGreat
namespace Lm
open Go Go.RowKit Md
theorem left_rs {n : Nat} {rows : List (List Int)} {R : List Md.Rw} {Q : List Nat} (h : Ech n rows R Q) (hrn : ∀ r ∈ rows, r.length = n) {v : List Int} (hvn : v.length = n) : ((gRow (fun k => D (fnR v :: R) (k :: Q)) n).any (fun z => decide (z ≠ 0)) = false) ↔ RS R (fnR v) := by
  constructor
  · intro ha
    refine left_in (desc_nodup h.gat.desc) h.gat.ne (fun c => ?_)
    by_cases hc : c < n
    · have := List.any_eq_false.1 ha _ (List.mem_map.2 ⟨c, List.mem_range.2 hc, rfl⟩)
      simpa using this
    · refine sp_out (sp_head (fnR v :: R) Q) (fun x hx => ?_)
      rcases List.mem_cons.1 hx with rfl | hx
      · exact fnR_out (by omega)
      · obtain ⟨r, hr, rfl⟩ := h.mem hx
        exact fnR_out (by rw [hrn r hr]; omega)
  · intro hr
    rw [List.any_eq_false]
    intro z hz
    obtain ⟨k, _, rfl⟩ := List.mem_map.1 hz
    simp [in_left hr]
set_option maxRecDepth 20000 in
set_option maxHeartbeats 8000000 in
theorem minside_any (w : World) (v vv : Value) (rows : List (List Int)) (zs : List Int) (n L0 : Nat) (h : IsM w v rows L0) (hs : Shaped rows (n : Int)) (hv : IsRow w vv zs L0) (hz : zs.length = n) (hL0 : L0 ≤ 1510) :
    Calls Tryz.prog 14 #[v, .int .i64 (n : Int), vv] w fun e w' => (∃ R Q b, Ech n rows R Q ∧ e = .returned (.tuple #[.bool b, .int .i64 0]) ∧ (b = true ↔ RS R (fnR zs))) ∧ Below w.heap.size w w' := by
  have K0 := mshaped_any w v rows L0 h (n : Int)
  rw [decide_eq_true hs] at K0
  have K0 := hide K0
  have K1 : Hid (∀ w1, Below w.heap.size w w1 → _) := (fun w1 hb => gather_sh w1 v rows n L0 (h.below hb) hs hL0)
  have HRN : Hid (∀ r ∈ rows, r.length = n) := (fun r hr => by have := hs.2.2.2 r hr; omega)
  have hLT := h.lts
  have hvL := isrow_lt' hv
  obtain ⟨ao, cp, rfl, hn⟩ := h.parts
  obtain ⟨av, cv, rfl, hvl⟩ := hv.parts
  rw [hz] at hv hvl ⊢
  have HV := hide hv
  have HZ := hide hz
  have HLT := hide (And.intro hLT hvL)
  have hn32 := hs.2.1
  have hnn : ((n : Int) != (n : Int)) = false := by simp
  clear h hs hv hz hLT hvL
  go_enter Tryz.func14, Tryz.ntmps14
  go_wp2_with fail
  refine K0.out.mono ?_
  rintro e w1 ⟨rfl, hb1⟩
  have K2 := hide (K1.out w1 hb1)
  have HB1 := hide hb1
  clear hb1 K0
  go_wp2_with fail
  refine K2.out.mono ?_
  rintro e w2 ⟨R, Q, ra, rc, pa, pc, ng, la, lm, lc, rfl, hE, hM, hP, hF, hb2⟩
  have hba := hAl w2 (.cells #[.slice ra Q.length rc, .slice pa Q.length pc, .bool ng, .slice la lm lc] 54)
  have hn2 := heap_alloc_new w2 (.cells #[.slice ra Q.length rc, .slice pa Q.length pc, .bool ng, .slice la lm lc] 54)
  have hb02 := HB1.out.trans (hb2.mono HB1.out.size)
  have hb03 := hb02.trans (hba.mono hb02.size)
  have hBas : Bas (w2.alloc (.cells #[.slice ra Q.length rc, .slice pa Q.length pc, .bool ng, .slice la lm lc] 54)) w2.heap.size Q.reverse (baR R Q n) (D R Q) (lg L0) := ⟨_, _, _, _, _, _, hn2, hM.is.below hba, hP.is.below hba, hF.is.ru (Ru.of_below hba)⟩
  have hQl := hE.len
  have hfr : ∀ x ∈ fnR zs :: R, ∀ c, ((x c).natAbs : Int) < pw L0 := fun x hx' c => by
    rcases List.mem_cons.1 hx' with rfl | hx'
    · exact fnR_lt HLT.out.2 (by have := pw_pos L0; omega) c
    · exact GatI.lts hE (by have := pw_pos L0; omega) HLT.out.1 x hx' c
  have hld := left_det (R := R) (desc_nodup hE.gat.desc) zs n
  have KL := mleft_any _ w2.heap.size n (lg L0) (lg L0) (.slice av n cv) zs Q.reverse (baR R Q n) (D R Q) ((HV.out.below hb03).wide (by unfold lg; omega)) hBas HZ.out (GatI.shp hE (Nat.le_refl _) (by omega)) (by omega) (by unfold lg; omega) (by
    rw [hld]
    intro z hz
    obtain ⟨c, _, rfl⟩ := List.mem_map.1 hz
    have := GatI.len hE
    exact det_lt hfr (by simp; omega) (by simp; omega))
  rw [hld] at KL
  have KL := hide KL
  have HE := hide hE
  have HB3 := hide hb03
  clear hE hM hP hF hb2 hba hb02 hb03 hn2 hBas hQl hfr hld K1 K2
  go_wp2_with fail
  refine KL.out.mono ?_
  rintro e w4 ⟨r4, rfl, ho, hb4⟩
  have KC := hide (containsf_any w4 r4 (gRow (fun c => D (fnR zs :: R) (c :: Q)) n) (lg L0) ho.is 36 has_other #[] (fun z => decide (z ≠ 0)) (fun W z xv _ _ hx => mother_any W z (lg L0) xv hx (by unfold lg; omega)))
  obtain ⟨bl, rfl, _⟩ := id ho
  have HB4 := hide (HB3.out.trans (hb4.mono HB3.out.size))
  rw [gRow_len] at KC ⊢
  clear ho hb4 KL
  go_wp2_with fail
  refine KC.out.mono ?_
  rintro e w5 ⟨rfl, hb5⟩
  have HB5 := hide (HB4.out.trans (hb5.mono HB4.out.size))
  have HR := hide (left_rs HE.out HRN.out HZ.out)
  clear hb5 KC
  generalize (gRow (fun c => D (fnR zs :: R) (c :: Q)) n).any (fun z => decide (z ≠ 0)) = bb at *
  go_wp2
  refine bodyPost_ret (v := _) (by simp [results, Tryz.results14, go_sem]; try rfl) rfl ⟨⟨R, Q, !bb, HE.out, rfl, by rw [← HR.out]; cases bb <;> simp⟩, HB5.out⟩
end Lm
end Go.Proofs.YtnomflballofiaaGreat

namespace Go.Proofs.YtnomflballofiaaGreat
namespace Lm
open Go Go.RowKit Md
theorem op_addw {dst : Option Tmp} {ty : TypeId} {pos : String} {after : Array Edge} {guard : Option (Nat × Bool)} {a : Act} {w : World} {ats : Array TypeId} {i j : Nat} {x y : Int} {L M K : Nat} (h1 : IsW x L (a.eval (.tmp i)) w) (h2 : IsW y M (a.eval (.tmp j)) w) (hL : L ≤ 400000) (hM : M ≤ 400000) (hK : K ≤ w.heap.size) :
    Does Tryz.prog { dst, op := .call { callee := .value (.func 38), args := #[.tmp i, .tmp j], argTypes := ats }, type := ty, pos, after, guard } a.eval w fun v w' => Below w.heap.size w w' ∧ FrW K (x + y) (L + M + 1) v w' :=
  does_call has_add #[_, _] (by simp) ((addF _ x y _ _ L M h1 h2 hL hM).mono fun e w' ⟨v, h, hf, hb⟩ => ⟨v, h, hb, hf.low hK⟩)
theorem zsM_len (ess : List (List WE)) : (zsM ess).length = ess.length := by simp [zsM]
theorem fnR_get {l : List Int} {c : Nat} (h : c < l.length) : l[c]? = some (fnR l c) := by
  unfold fnR
  rw [List.getD_eq_getElem?_getD, List.getElem?_eq_getElem h]
  rfl
end Lm
end Go.Proofs.YtnomflballofiaaGreat

namespace Go.Proofs.YtnomflballofiaaGreat
namespace Lm
open Go Go.RowKit Md
theorem dotN_succ (n : Nat) (x y : Md.Rw) : dotN (n + 1) x y = dotN n x y + x n * y n := by
  unfold dotN
  rw [List.range_succ, sumL_append, sumL, sumL]
  omega
theorem dotN_lt {x y : Md.Rw} {L : Nat} (hx : ∀ c, ((x c).natAbs : Int) < pw L) (hy : ∀ c, ((y c).natAbs : Int) < pw L) : ∀ n : Nat, ((dotN n x y).natAbs : Int) ≤ n * (pw L * pw L)
  | 0 => by simp [dotN, sumL]
  | n + 1 => by
    rw [dotN_succ]
    have h1 := dotN_lt hx hy n
    have h2 : ((x n * y n).natAbs : Int) ≤ pw L * pw L := by
      rw [Int.natAbs_mul, Int.natCast_mul]
      exact Int.mul_le_mul (by have := hx n; omega) (by have := hy n; omega) (by omega) (by have := pw_pos L; omega)
    rw [Int.natCast_add, Int.add_mul]
    omega
set_option maxRecDepth 20000 in
set_option maxHeartbeats 4000000 in
theorem ldot_any (w : World) (va vb : Value) (zs ys : List Int) (L n : Nat) (ha : IsRow w va zs L) (hb : IsRow w vb ys L) (hzn : zs.length = n) (hyn : ys.length = n) (hn : n ≤ 100000) (hL : L ≤ 50000) :
    Calls Tryz.prog 16 #[va, vb] w fun e w' => ∃ r, e = .returned r ∧ FrW w.heap.size (dotN n (fnR zs) (fnR ys)) (L + L + 1) r w' ∧ Below w.heap.size w w' := by
  have hbd : ∀ k, k ≤ n → ((dotN k (fnR zs) (fnR ys)).natAbs : Int) < pw (L + L + 1) := fun k hk => by
    have h1 := dotN_lt (fun c => fnR_lt (isrow_lt' ha) (by have := pw_pos L; omega) c) (fun c => fnR_lt (isrow_lt' hb) (by have := pw_pos L; omega) c) k
    have h2 : pw (L + L + 1) = 4294967296 * (pw L * pw L) := by rw [← pw_add]; rfl
    have h3 : (k : Int) * (pw L * pw L) ≤ 100000 * (pw L * pw L) := Int.mul_le_mul_of_nonneg_right (by omega) (Int.mul_nonneg (by have := pw_pos L; omega) (by have := pw_pos L; omega))
    have h4 : 0 < pw L * pw L := Int.mul_pos (by have := pw_pos L; omega) (by have := pw_pos L; omega)
    omega
  obtain ⟨aa, ca, rfl, _⟩ := ha.parts
  obtain ⟨ab, cb, rfl, _⟩ := hb.parts
  rw [hzn] at ha ⊢
  rw [hyn] at hb ⊢
  have HA := hide ha
  have HB := hide hb
  have HZN := hide (And.intro hzn hyn)
  have HBD := hide hbd
  have hb0 : Below w.heap.size w ((w.alloc (.cells #[.bool false, .slice none 0 0] 38)).alloc (.cells #[.bool false, .slice none 0 0] 38)) := by (repeat' (first | (with_reducible exact Below.refl _ _) | (with_reducible assumption) | (with_reducible refine gdrewN ?_ _) | (with_reducible refine Below.alloc ?_ ?_ _) | (with_reducible refine Below.drew ?_) | (with_reducible refine Below.setCell ?_ ?_ _) | go_size))
  have hf2 : ((w.alloc (.cells #[.bool false, .slice none 0 0] 38)).alloc (.cells #[.bool false, .slice none 0 0] 38)).heap[w.heap.size]? = some (.cells #[.bool false, .slice none 0 0] 38 (0, 0)) := alloc_keep (heap_alloc_new w _)
  have hf3 : ((w.alloc (.cells #[.bool false, .slice none 0 0] 38)).alloc (.cells #[.bool false, .slice none 0 0] 38)).heap[w.heap.size + 1]? = some (.cells #[.bool false, .slice none 0 0] 38 (0, 0)) := by
    have := heap_alloc_new (w.alloc (.cells #[.bool false, .slice none 0 0] 38)) (.cells #[.bool false, .slice none 0 0] 38)
    simpa using this
  have HB0 := hide (And.intro hb0 (And.intro hf2 hf3))
  clear ha hb hzn hyn hbd hb0 hf2 hf3
  go_enter Tryz.func16, Tryz.ntmps16
  go_wp2
  go_loopw [6] (fun iv wr => ∃ (k : Nat), iv = .int .i64 k ∧ k ≤ n ∧ Below w.heap.size w wr ∧ wr.heap[w.heap.size]? = some (.cells #[.bool false, .slice none 0 0] 38 (0, 0)) ∧ ∃ ng a m c, wr.heap[w.heap.size + 1]? = some (.cells #[.bool ng, .slice a m c] 38 (0, 0)) ∧ FrW w.heap.size (dotN k (fnR zs) (fnR ys)) (L + L + 1) (.agg #[.bool ng, .slice a m c]) wr) (fun iv _ => n - (intOf iv).toNat)
  case atStart => exact ⟨0, rfl, Nat.zero_le _, HB0.out.1, HB0.out.2.1, false, none, 0, 0, HB0.out.2.2, frw_zero _ HB0.out.1.size⟩
  case round =>
    obtain ⟨k, rfl, hk, hbw, hf2, ng, a, m, c, hf3, ho⟩ := hrel
    have HW := hide hbw
    have HF2 := hide hf2
    have HN := hide hf3
    by_cases hlt : k < n
    · have hlt' : (k : Int) < (n : Int) := by omega
      obtain ⟨z, hz⟩ : ∃ z, fnR zs k = z := ⟨_, rfl⟩
      obtain ⟨y, hy⟩ : ∃ z, fnR ys k = z := ⟨_, rfl⟩
      obtain ⟨bx, ox, ngx, axx, mxx, cxx, rfl, hlx0, x0, x1, hx⟩ := HA.out.cell (k := k) (z := z) (by rw [← hz]; exact fnR_get (by rw [HZN.out.1]; exact hlt))
      obtain ⟨bz, oz, ngz, azz, mzz, czz, rfl, hlz0, z0, z1, hyw⟩ := HB.out.cell (k := k) (z := y) (by rw [← hy]; exact fnR_get (by rw [HZN.out.2]; exact hlt))
      have hlx := Nat.lt_of_lt_of_le hlx0 hbw.size
      have hlz := Nat.lt_of_lt_of_le hlz0 hbw.size
      replace x0 := (hbw.cell (p := ⟨bx, ox + k * 2, none⟩) hlx0).trans x0
      replace x1 := (hbw.cell (p := ⟨bx, ox + k * 2 + 1, none⟩) hlx0).trans x1
      replace z0 := (hbw.cell (p := ⟨bz, oz + k * 2, none⟩) hlz0).trans z0
      replace z1 := (hbw.cell (p := ⟨bz, oz + k * 2 + 1, none⟩) hlz0).trans z1
      have HXW := hide (hx.ru (Ru.of_below hbw))
      have HYW := hide (hyw.ru (Ru.of_below hbw))
      have HSS : Hid (dotN (k + 1) (fnR zs) (fnR ys) = dotN k (fnR zs) (fnR ys) + z * y) := (show _ = _ by rw [dotN_succ, hz, hy])
      generalize dotN k (fnR zs) (fnR ys) = s at *
      have HS := hide ho
      clear hbw hf2 hf3 ho hx hyw hz hy
      go_upto_region 5 with fail
      refine region_tail 11 [14, 15, 16, 17, 18, 19, 20, 21, 22, 23, 24] [(FrW w.heap.size s (L + L + 1)), Eqs (.slice (some ⟨bx, ox, none⟩) n ca), Eqs (.int .i64 (k : Int)), Eqs (.pointer (some ⟨bx, ox + k * 2, none⟩)), (IsW z L), Eqs (.slice (some ⟨bz, oz, none⟩) n cb), Eqs (.int .i64 (k : Int)), Eqs (.pointer (some ⟨bz, oz + k * 2, none⟩)), (IsW y L), (FrW wr.heap.size (z * y) (L + L)), (FrW wr.heap.size (s + z * y) (L + L + 1 + (L + L) + 1))] rfl rfl (by decide) (by kernel_rfl) (by kernel_rfl) (by decide) (by kernel_rfl) ⟨(Mono.of4 (FrW.mono4 _ _ _)), Eqs.mono _, Eqs.mono _, Eqs.mono _, (Mono.of4 (IsW.mono4 _ _)), Eqs.mono _, Eqs.mono _, Eqs.mono _, (Mono.of4 (IsW.mono4 _ _)), (Mono.of4 (FrW.mono4 _ _ _)), (Mono.of4 (FrW.mono4 _ _ _)), trivial⟩ ?_ ?_
      · exact ⟨⟨rfl, fun a_ w_ _ hB hR hD => op_ldP ((hR 5 rfl).trans (eval_list rfl)) ((hB.block _ (lt_of_heap HN.out)).trans HN.out) (Mono.of4 (FrW.mono4 _ _ _) _ _ _ hB HS.out)⟩,
            ⟨rfl, fun a_ w_ _ hB hR hD => op_mv ((hR 0 rfl).trans (eval_list rfl))⟩,
            ⟨rfl, fun a_ w_ _ hB hR hD => op_mv ((hR 6 rfl).trans (eval_list rfl))⟩,
            ⟨rfl, fun a_ w_ _ hB hR hD => op_idxr (show a_.eval (.tmp 15) = .slice (some ⟨bx, ox, none⟩) n ca from hD 1 rfl) rfl (show a_.eval (.tmp 16) = .int .i64 (k : Int) from hD 2 rfl) hlt⟩,
            ⟨rfl, fun a_ w_ _ hB hR hD => op_ldc (show a_.eval (.tmp 17) = .pointer (some ⟨bx, ox + k * 2, none⟩) from hD 3 rfl) ((hB.cell (p := ⟨bx, ox + k * 2, none⟩) hlx).trans x0) ((hB.cell (p := ⟨bx, ox + k * 2 + 1, none⟩) hlx).trans x1) (Mono.of4 (IsW.mono4 _ _) _ _ _ hB HXW.out)⟩,
            ⟨rfl, fun a_ w_ _ hB hR hD => op_mv ((hR 1 rfl).trans (eval_list rfl))⟩,
            ⟨rfl, fun a_ w_ _ hB hR hD => op_mv ((hR 6 rfl).trans (eval_list rfl))⟩,
            ⟨rfl, fun a_ w_ _ hB hR hD => op_idxr (show a_.eval (.tmp 19) = .slice (some ⟨bz, oz, none⟩) n cb from hD 5 rfl) rfl (show a_.eval (.tmp 20) = .int .i64 (k : Int) from hD 6 rfl) hlt⟩,
            ⟨rfl, fun a_ w_ _ hB hR hD => op_ldc (show a_.eval (.tmp 21) = .pointer (some ⟨bz, oz + k * 2, none⟩) from hD 7 rfl) ((hB.cell (p := ⟨bz, oz + k * 2, none⟩) hlz).trans z0) ((hB.cell (p := ⟨bz, oz + k * 2 + 1, none⟩) hlz).trans z1) (Mono.of4 (IsW.mono4 _ _) _ _ _ hB HYW.out)⟩,
            ⟨rfl, fun a_ w_ _ hB hR hD => op_mulw (show (IsW z L) (a_.eval (.tmp 18)) w_ from hD 4 rfl) (show (IsW y L) (a_.eval (.tmp 22)) w_ from hD 8 rfl) (by omega) (by omega) hB.size⟩,
            ⟨rfl, fun a_ w_ _ hB hR hD => op_addw (FrW.is (show (FrW w.heap.size s (L + L + 1)) (a_.eval (.tmp 14)) w_ from hD 0 rfl)) (FrW.is (show (FrW wr.heap.size (z * y) (L + L)) (a_.eval (.tmp 23)) w_ from hD 9 rfl)) (by omega) (by omega) hB.size⟩,
            trivial⟩
      · intro a' w' hn' hd' hB' hR' hP'
        obtain ⟨u14, e14⟩ : ∃ u, a'.eval (.tmp 14) = u := ⟨_, rfl⟩
        have e15 : a'.eval (.tmp 15) = .slice (some ⟨bx, ox, none⟩) n ca := hP' 1 (by decide)
        have e16 : a'.eval (.tmp 16) = .int .i64 (k : Int) := hP' 2 (by decide)
        have e17 : a'.eval (.tmp 17) = .pointer (some ⟨bx, ox + k * 2, none⟩) := hP' 3 (by decide)
        obtain ⟨u18, e18⟩ : ∃ u, a'.eval (.tmp 18) = u := ⟨_, rfl⟩
        have e19 : a'.eval (.tmp 19) = .slice (some ⟨bz, oz, none⟩) n cb := hP' 5 (by decide)
        have e20 : a'.eval (.tmp 20) = .int .i64 (k : Int) := hP' 6 (by decide)
        have e21 : a'.eval (.tmp 21) = .pointer (some ⟨bz, oz + k * 2, none⟩) := hP' 7 (by decide)
        obtain ⟨u22, e22⟩ : ∃ u, a'.eval (.tmp 22) = u := ⟨_, rfl⟩
        obtain ⟨u23, e23⟩ : ∃ u, a'.eval (.tmp 23) = u := ⟨_, rfl⟩
        obtain ⟨u24, e24⟩ : ∃ u, a'.eval (.tmp 24) = u := ⟨_, rfl⟩
        have hT : (FrW wr.heap.size (s + z * y) (L + L + 1 + (L + L) + 1)) (a'.eval (.tmp 24)) w' := hP' 10 (by decide)
        rw [e24] at hT
        refine tail_fit hn' hd' hR' (.s4 rfl <| .s4 rfl <| .s4 rfl <| .same rfl <| .same rfl <| .new e14 <| .new e15 <| .new e16 <| .new e17 <| .new e18 <| .new e19 <| .new e20 <| .new e21 <| .new e22 <| .new e23 <| .new e24 <| .same rfl <| .nil) ?_
        clear e14 e15 e16 e17 e18 e19 e20 e21 e22 e23 e24
        obtain ⟨ng1, a1, m1, c1, rfl⟩ := hT.agg
        have hfit := (hT.low HW.out.size).fit (L' := L + L + 1) (by rw [← HSS.out]; exact HBD.out (k + 1) (by omega))
        have hg3 := (hB'.block _ (lt_of_heap HN.out)).trans HN.out
        have hg2 := (hB'.block _ (lt_of_heap HF2.out)).trans HF2.out
        obtain ⟨_, v0, v1, vf0, vf1⟩ := two_cells hg3
        have HG3 := hide hg3
        have HG2 := hide hg2
        have HT := hide hfit
        have HB1 := hide (HW.out.trans (hB'.mono HW.out.size))
        clear hT hfit hg3 hg2 hB' hR' hP' hn' hd' x0 x1 z0 z1
        go_wp2
        go_roundw
        case rel =>
          refine ⟨k + 1, by go_num, by omega, (HB1.out.setCell (Nat.le_succ _) _).setCell (Nat.le_succ _) _, ?_, _, _, _, _, set_w2 HG3.out _ _, ?_⟩
          · rw [heap_setCell_other _ ⟨w.heap.size + 1, 1, none⟩ _ _ (by show w.heap.size ≠ w.heap.size + 1; omega), heap_setCell_other _ ⟨w.heap.size + 1, 0, none⟩ _ _ (by show w.heap.size ≠ w.heap.size + 1; omega)]
            exact HG2.out
          · rw [HSS.out]
            exact HT.out.ru (ru_w2 HG3.out _ _)
        case measure => simp [intOf]; omega
    · have hlt' : decide ((k : Int) < (n : Int)) = false := by simp; omega
      have hkn : n = k := by omega
      subst hkn
      obtain ⟨h3l, y0, y1, yf0, yf1⟩ := two_cells hf3
      obtain ⟨h2l, x0, x1, xf0, xf1⟩ := two_cells hf2
      have HO := hide ho
      clear hbw hf2 hf3 ho
      go_wp2
      exact bodyPost_ret (v := .agg #[.bool ng, .slice a m c]) (res_c (g := w.heap.size) rfl rfl (lvw2 (set_w2 HF2.out _ _))) rfl ⟨_, rfl, HO.out.ru (ru_w2 HF2.out _ _), (HW.out.setCell (Nat.le_refl _) _).setCell (Nat.le_refl _) _⟩
end Lm
end Go.Proofs.YtnomflballofiaaGreat

namespace Go.Proofs.YtnomflballofiaaGreat
namespace Lm
open Go Go.RowKit Md
theorem ORow.fit {K : Nat} {w : World} {v : Value} {zs : List Int} {L M : Nat} (h : ORow K w v zs L) (hz : ∀ z ∈ zs, (z.natAbs : Int) < pw M) : ORow K w v zs M := by
  obtain ⟨bv, e, hK, ⟨es, B, T, h1, h2, h3, h4, h5⟩, hl⟩ := h
  refine ⟨bv, e, hK, ⟨es, B, T, h1, h2, h3, fun k e z a b c => ?_, h5⟩, hl⟩
  obtain ⟨g1, g2, g3, g4, g5⟩ := h4 k e z a b c
  exact ⟨g1, g2, canon_len g1.fr.canon (by rw [g1.fr.val]; exact hz z (List.mem_of_getElem? c)), g4, g5⟩
theorem OwM.fit {K : Nat} {w : World} {rv : Value} {rows : List (List Int)} {L : Nat} (h : OwM K w rv rows L) (hz : ∀ r ∈ rows, r.any big = false) : OwM K w rv rows 32 := by
  obtain ⟨vs, h1, h2⟩ := h
  refine ⟨vs, h1, fun i u z hu hzz => (h2 i u z hu hzz).fit fun x hx => ?_⟩
  have := List.any_eq_false.1 (hz z (List.mem_of_getElem? hzz)) x hx
  unfold big at this
  simpa using this
theorem efOf_len (R : List Md.Rw) (Q : List Nat) : (efOf R Q).length = Q.length := by simp [efOf]
theorem Ech.same {n : Nat} {rows : List (List Int)} {R R' : List Md.Rw} {Q Q' : List Nat} (h : Ech n rows R Q) (h' : Ech n rows R' Q') : Q = Q' := (ech_same h h' (fun r hr => .mem (List.mem_map.2 ⟨r, hr, rfl⟩)) (fun r hr => .mem (List.mem_map.2 ⟨r, hr, rfl⟩))).1
theorem Ech.shaped {n : Nat} {rows : List (List Int)} {R : List Md.Rw} {Q : List Nat} (h : Ech n rows R Q) (hn : n ≤ 32) : Shaped (elR n (efOf R Q)) (n : Int) := ⟨by omega, by omega, by rw [elR_len, efOf_len]; have := h.len; omega, fun r hr => by rw [elR_row r hr]⟩
theorem kerE_shaped {n : Nat} {R : List Md.Rw} {Q : List Nat} (hn : n ≤ 32) : Shaped (elR n (kerE n R Q)) (n : Int) := ⟨by omega, by omega, by rw [elR_len, kerE_len]; have := free_le n Q; omega, fun r hr => by rw [elR_row r hr]⟩
theorem EchOut.el {K : Nat} {w' : World} {n L0 : Nat} {rows : List (List Int)} {e : Ending} (h : EchOut K w' n L0 rows e) : ∃ R Q, Ech n rows R Q ∧ (((∃ r ∈ elR n (efOf R Q), r.any big = true) ∧ e = .returned (.tuple #[.slice none 0 0, .int .i64 2])) ∨ ((∀ r ∈ elR n (efOf R Q), r.any big = false) ∧ ∃ rv, e = .returned (.tuple #[rv, .int .i64 0]) ∧ OwM K w' rv (elR n (efOf R Q)) 32)) := by
  obtain ⟨R, Q, hE, ⟨h1, h2⟩ | ⟨h1, rv, h2, h3⟩⟩ := h
  · rw [big_map, ← elR_of] at h1
    exact ⟨R, Q, hE, .inl ⟨h1, h2⟩⟩
  · rw [big_map', ← elR_of] at h1
    rw [← elR_of] at h3
    exact ⟨R, Q, hE, .inr ⟨h1, rv, h2, h3.fit h1⟩⟩
end Lm
end Go.Proofs.YtnomflballofiaaGreat

namespace Go.Proofs.YtnomflballofiaaGreat
namespace Lm
open Go Go.RowKit Md
theorem Ech.rs {n : Nat} {rows : List (List Int)} {R R' : List Md.Rw} {Q Q' : List Nat} (h : Ech n rows R Q) (h' : Ech n rows R' Q') {x : Md.Rw} (hx : RS R x) : RS R' x := hx.trans fun y hy => by
  obtain ⟨r, hr, rfl⟩ := h.mem hy
  exact h'.rows_in hr
theorem own_isM {K : Nat} {w : World} {v : Value} {rows : List (List Int)} {vs : List Value} {u : Value} {z : List Int} {L m : Nat} (ho : w.ownsRow K 34 1 v (m + 1) (vs ++ [u])) (hm : rows.length = m) (hr : ∀ (i : Nat) (u : Value) (z : List Int), vs[i]? = some u → rows[i]? = some z → IsRow w u z L) (hu : IsRow w u z L) : IsM w v (rows ++ [z]) L := by
  have hvl : vs.length = m := by have := ho.1; simp at this; omega
  have hl : (rows ++ [z]).length = m + 1 := by simp [hm]
  refine ⟨vs ++ [u], by rw [hl]; exact Ce.own ho, fun i x y hx hy => ?_⟩
  by_cases hi : i < m
  · rw [List.getElem?_append_left (by omega)] at hx hy
    exact hr i x y hx hy
  · by_cases he : i = m
    · subst he
      rw [List.getElem?_append_right (by omega), hm] at hy
      rw [List.getElem?_append_right (by omega), hvl] at hx
      simp at hx hy
      subst hx hy
      exact hu
    · rw [List.getElem?_eq_none (by simp; omega)] at hy
      cases hy
theorem wpList_append_rows {ops : Array Oper} {rest : List Oper} {o : Oper} {a : Act} {Q : Exit → Act → World → Prop} {w : World} (hgd : o.guard = none) (s x : Operand) (ho : o.op = .call { callee := .builtin .append, args := #[s, x], argTypes := #[22, 22] }) (hs : a.eval s = .slice none 0 0) {a0 : Option Addr} {m c0 : Nat} {vs : List Value} (hx : a.eval x = .slice a0 m c0) (hC : Ce w (.slice a0 m c0) 1 m vs) (hone : ∀ u ∈ vs, u.oneCell' = true) (hm : m ≤ 1000000)
    (h : ∀ v' w', w'.ownsRow w.heap.size 34 1 v' m vs → Below w.heap.size w w' → wpList Tryz.prog ops Q rest (a.put o.dst v') w') : wpList Tryz.prog ops Q (o :: rest) a w := by
  obtain ⟨iS, si, sz0, sz1, sz2⟩ := info_parts infoSz2
  obtain ⟨ao', cap', hv, h1, h2, h3, h4⟩ := hC
  obtain ⟨rfl, _, rfl⟩ := (Value.slice.injEq .. ▸ hv)
  cases a0 with
  | none =>
    have hm0 : m = 0 := by
      rcases h4 with h4 | ⟨b, off, e, _⟩
      · exact h4
      · cases e
    subst hm0
    obtain rfl : vs = [] := List.length_eq_zero_iff.1 (by simpa using h3)
    refine wpList_plain hgd fun K hK => ?_
    have hrun : (Builtin.append_ #[22, 22] o.type #[.slice none 0 0, .slice none 0 c0]).run Tryz.prog w = .ok (.slice none 0 0) w := by
      simp [Builtin.append_, run_underlying Tryz.underlying22, sizeOf, typeInfo, si, Builtin.lenOf, Builtin.firstCells]
    unfold Oper.wp
    simp [execOp, ho, resolve, invoke, builtin, hs, hx, hrun, Result.andThen]
    exact hK _ _ (h _ _ (World.ownsRow_nil _ _ _ _) (Below.refl _ _))
  | some ad =>
    refine wpList_append_own w hgd s x 22 ho w.heap.size 34 iS (.slice none 0 0) 1 24 Tryz.underlying22 si sz0 sz1 sz2 rfl (by decide) _ _ _ hs (World.ownsRow_nil _ _ _ _) ad m c0 vs hx (by simpa using h3) (fun j u hu => ?_) hone (by unfold maxLen; omega) (by omega) (Nat.le_refl _) (fun v' w' ho hg _ => h v' w' (by simpa using ho) ((Below.refl _ _).grown hg (Nat.le_refl _) (fun k hk => by cases hk)))
    rcases h4 with h4 | ⟨b, off, e, _, hc⟩
    · subst h4
      obtain rfl : vs = [] := List.length_eq_zero_iff.1 (by simpa using h3)
      simp at hu
    · obtain rfl := Option.some.inj e
      rw [Addr.add_lit]
      exact hc j u hu
def noneB (n : Nat) (v : List Int) (Z : List (List Int)) (q : Nat) : Bool := (Z.take q).all (fun z => decide (dotN n (fnR v) (fnR z) = 0))
theorem noneB_next {n : Nat} {v : List Int} {Z : List (List Int)} {q : Nat} {z : List Int} (h : Z[q]? = some z) : noneB n v Z (q + 1) = (noneB n v Z q && decide (dotN n (fnR v) (fnR z) = 0)) := by
  unfold noneB
  rw [List.take_add_one, h]
  simp
theorem noneB_all {n : Nat} {v : List Int} {Z : List (List Int)} : noneB n v Z Z.length = true ↔ ∀ z ∈ Z, dotN n (fnR v) (fnR z) = 0 := by
  unfold noneB
  rw [List.take_length, List.all_eq_true]
  simp
theorem KerOut.el {K : Nat} {w' : World} {n L0 : Nat} {rows : List (List Int)} {e : Ending} (h : KerOut K w' n L0 rows e) : ∃ R Q, Ech n (mir rows) R Q ∧ (((∃ r ∈ elR n (kerE n R Q), r.any big = true) ∧ e = .returned (.tuple #[.slice none 0 0, .int .i64 2])) ∨ ((∀ r ∈ elR n (kerE n R Q), r.any big = false) ∧ ∃ rv, e = .returned (.tuple #[rv, .int .i64 0]) ∧ OwM K w' rv (elR n (kerE n R Q)) 32)) := by
  obtain ⟨R, Q, hE, h1 | ⟨h1, rv, h2, h3⟩⟩ := h
  · exact ⟨R, Q, hE, .inl h1⟩
  · exact ⟨R, Q, hE, .inr ⟨h1, rv, h2, h3.fit h1⟩⟩
def Ans (K : Nat) (w' : World) (rows : List (List Int)) (a : Option Addr) (l c : Nat) (ec : Int) : Prop := (ec = 2 ∧ ∃ r ∈ rows, r.any big = true) ∨ (ec = 0 ∧ l = rows.length ∧ (∀ r ∈ rows, r.any big = false) ∧ OwM K w' (.slice a l c) rows 32)
theorem Ans.below {K : Nat} {w w' : World} {rows : List (List Int)} {a : Option Addr} {l c : Nat} {ec : Int} (h : Ans K w rows a l c ec) (hb : Below w.heap.size w w') : Ans K w' rows a l c ec := by
  rcases h with h | ⟨h1, h2, h3, h4⟩
  · exact .inl h
  · exact .inr ⟨h1, h2, h3, h4.below hb⟩
theorem ans_of {K : Nat} {w' : World} {rows : List (List Int)} {e : Ending} (h : ((∃ r ∈ rows, r.any big = true) ∧ e = .returned (.tuple #[.slice none 0 0, .int .i64 2])) ∨ ((∀ r ∈ rows, r.any big = false) ∧ ∃ rv, e = .returned (.tuple #[rv, .int .i64 0]) ∧ OwM K w' rv rows 32)) : ∃ a l c ec, e = .returned (.tuple #[.slice a l c, .int .i64 ec]) ∧ Ans K w' rows a l c ec := by
  rcases h with ⟨h1, rfl⟩ | ⟨h1, rv, rfl, h2⟩
  · exact ⟨none, 0, 0, 2, rfl, .inl ⟨rfl, h1⟩⟩
  · obtain ⟨a, c, rfl, _⟩ := h2.is.parts
    exact ⟨a, _, c, 0, rfl, .inr ⟨rfl, rfl, h1, h2⟩⟩
end Lm
end Go.Proofs.YtnomflballofiaaGreat

namespace Go.Proofs.YtnomflballofiaaGreat
namespace Lm
open Go Go.RowKit
theorem wr64_add (a b : Int) : IntKind.i64.wrap (IntKind.i64.wrap a + b) = IntKind.i64.wrap (a + b) := by
  rw [IntKind.wrap_i64, IntKind.wrap_i64, IntKind.wrap_i64]
  omega
theorem wr64_add2 (a b : Int) : IntKind.i64.wrap (a + IntKind.i64.wrap b) = IntKind.i64.wrap (a + b) := by
  rw [IntKind.wrap_i64, IntKind.wrap_i64, IntKind.wrap_i64]
  omega
theorem wr64_id {a : Int} (h : 0 ≤ a) (h' : a ≤ 9223372036854775807) : IntKind.i64.wrap a = a := by
  rw [IntKind.wrap_i64]
  omega
set_option maxRecDepth 20000 in
set_option maxHeartbeats 4000000 in
theorem lenrow_s (w : World) (ax : Option Addr) (mx cx : Nat) (xs : List WE) (R : Rw w (.slice ax mx cx) xs) (hm : ∀ e ∈ xs, e.m ≤ 35184372088832) :
    Calls Tryz.prog 17 #[.slice ax mx cx] w fun e w' => e = .returned (.int .i64 (IntKind.i64.wrap (lenW xs : Int))) ∧ Below w.heap.size w w' := by
  have HX := hide R
  have HNx : Hid (mx = xs.length) := R.parts.1
  have hml : mx ≤ 9223372036854775807 := by have := R.parts; omega
  have HMM := hide hm
  clear R hm
  go_enter Tryz.func17, Tryz.ntmps17
  go_wp2_with fail
  go_loopw [3, 4] (fun sv iv wr => ∃ (k : Nat) (s : Int), iv = .int .i64 k ∧ k ≤ mx ∧ sv = .int .i64 s ∧ s = IntKind.i64.wrap (lenW (xs.take k) : Int) ∧ Below w.heap.size w wr) (fun _ iv _ => mx - (intOf iv).toNat)
  case atStart => exact ⟨0, 0, rfl, Nat.zero_le _, rfl, rfl, Below.refl _ _⟩
  case round =>
    obtain ⟨k, s, rfl, hk, rfl, hsw, hbw⟩ := hrel
    have HSW := hide hsw
    by_cases hlt : k < mx
    · have hlt' : (k : Int) < (mx : Int) := by omega
      have HLT := hide hlt
      obtain ⟨ex, hex⟩ : ∃ e, xs[k]? = some e := ⟨_, List.getElem?_eq_getElem (by have := HNx.out; omega)⟩
      obtain ⟨bx, ox, hAx, hlx0, hcx⟩ := HX.out.cells (by have := HNx.out; omega)
      subst hAx
      have hlx : bx < wr.heap.size := Nat.lt_of_lt_of_le hlx0 hbw.size
      have x0 := (hbw.cell (p := ⟨bx, ox + k * 2, none⟩) hlx0).trans (hcx _ _ (flat_at hex).1)
      have x1 : wr.cell? ⟨bx, ox + k * 2 + 1, none⟩ = some (.slice ex.a ex.m ex.c) := (hbw.cell (p := ⟨bx, ox + k * 2 + 1, none⟩) hlx0).trans (hcx _ _ (flat_at hex).2)
      have hs := lenW_take hex
      have hem := HMM.out ex (List.mem_of_getElem? hex)
      have HW := hide hbw
      have K1 := hide (wlen_any wr ex.ng ex.a ex.m ex.c (by omega))
      obtain ⟨t, hadd⟩ : ∃ t, IntKind.i64.wrap (s + (1 + (ex.m : Int))) = t := ⟨_, rfl⟩
      have HT : Hid (t = IntKind.i64.wrap (lenW (xs.take (k + 1)) : Int)) := (show t = _ by
        rw [← hadd, HSW.out, wr64_add, hs]
        first | done | rfl | (congr 1; omega) | simp)
      clear hbw hs hsw hex hcx hlx
      go_wp2_with fail
      refine K1.out.mono ?_
      rintro e w2 ⟨rfl, hb2⟩
      have HB2 := hide (HW.out.trans (hb2.mono HW.out.size))
      clear hb2 x0 x1 hlx0
      go_wp2
      go_roundw
      case rel => exact ⟨k + 1, t, by go_num, HLT.out, rfl, HT.out, HB2.out⟩
      case measure => have := HLT.out; simp [intOf]; omega
    · have hlt' : decide ((k : Int) < (mx : Int)) = false := by simp; omega
      have hkn : k = mx := by omega
      subst hkn
      have HW := hide hbw
      clear hbw hsw
      go_wp2
      refine bodyPost_ret (v := _) (res_t rfl rfl) rfl ⟨?_, HW.out⟩
      have := HSW.out
      rw [List.take_of_length_le (by have := HNx.out; omega)] at this
      rw [← this]
      rfl
set_option maxRecDepth 20000 in
set_option maxHeartbeats 4000000 in
theorem lenrows_s (w : World) (v : Value) (ess : List (List WE)) (h : RwM w v ess) (hm : ∀ es ∈ ess, ∀ e ∈ es, e.m ≤ 35184372088832) :
    Calls Tryz.prog 7 #[v] w fun e w' => e = .returned (.int .i64 (IntKind.i64.wrap (lenM ess : Int))) ∧ Below w.heap.size w w' := by
  obtain ⟨ax, cx, rfl, hnl⟩ := h.parts
  have HX := hide h
  have HMM := hide hm
  obtain ⟨n, hn⟩ : ∃ n, ess.length = n := ⟨_, rfl⟩
  rw [hn] at HX hnl ⊢
  have HN := hide hn
  clear h hn hm
  go_enter Tryz.func7, Tryz.ntmps7
  go_wp2_with fail
  go_loopw [3, 4] (fun sv iv wr => ∃ (k : Nat) (s : Int), iv = .int .i64 k ∧ k ≤ n ∧ sv = .int .i64 s ∧ s = IntKind.i64.wrap (lenM (ess.take k) : Int) ∧ Below w.heap.size w wr) (fun _ iv _ => n - (intOf iv).toNat)
  case atStart => exact ⟨0, 0, rfl, Nat.zero_le _, rfl, rfl, Below.refl _ _⟩
  case round =>
    obtain ⟨k, s, rfl, hk, rfl, hsw, hbw⟩ := hrel
    have HW := hide hbw
    have HSW := hide hsw
    by_cases hlt : k < n
    · have hlt' : (k : Int) < (n : Int) := by omega
      have HLT := hide hlt
      obtain ⟨es, hes⟩ : ∃ e, ess[k]? = some e := ⟨_, List.getElem?_eq_getElem (by have := HN.out; omega)⟩
      obtain ⟨b, off, u, rfl, hbl, x0, hR⟩ := HX.out.cell hes
      obtain ⟨ua, uc, rfl⟩ := hR.slc
      replace x0 := (hbw.cell (p := ⟨b, off + k, none⟩) hbl).trans x0
      have hs := lenM_take hes
      have K1 := lenrow_s wr ua _ uc es (hR.below hbw) (HMM.out es (List.mem_of_getElem? hes))
      obtain ⟨t, ht⟩ : ∃ t, IntKind.i64.wrap (lenW es : Int) = t := ⟨_, rfl⟩
      rw [ht] at K1
      have K1 := hide K1
      obtain ⟨s1, hadd1⟩ : ∃ s1, IntKind.i64.wrap (s + 1) = s1 := ⟨_, rfl⟩
      obtain ⟨s2, hadd2⟩ : ∃ s2, IntKind.i64.wrap (s1 + t) = s2 := ⟨_, rfl⟩
      have HS : Hid (s2 = IntKind.i64.wrap (lenM (ess.take (k + 1)) : Int)) := (show s2 = _ by
        rw [← hadd2, ← ht, ← hadd1, HSW.out, wr64_add2, wr64_add, Int.add_assoc, wr64_add, hs]
        first | done | rfl | (congr 1; omega) | simp)
      clear hbw hs hsw hR hes ht
      go_wp2_with fail
      refine K1.out.mono ?_
      rintro e w2 ⟨rfl, hb2⟩
      have HB2 := hide (HW.out.trans (hb2.mono HW.out.size))
      clear hb2 K1 x0
      go_wp2
      go_roundw
      case rel => exact ⟨k + 1, s2, by go_num, HLT.out, rfl, HS.out, HB2.out⟩
      case measure => have := HLT.out; simp [intOf]; omega
    · have hlt' : decide ((k : Int) < (n : Int)) = false := by simp; omega
      have hkn : ess.take k = ess := List.take_of_length_le (by have := HN.out; omega)
      rw [hkn] at HSW
      clear hbw hsw
      go_wp2
      refine bodyPost_ret (v := _) (by simp [results, Tryz.results7, go_sem]; try rfl) rfl ⟨by rw [← HSW.out], HW.out⟩
theorem lenW_le {M : Nat} : ∀ {es : List WE}, (∀ e ∈ es, e.m ≤ M) → lenW es ≤ es.length * (1 + M)
  | [], _ => Nat.zero_le _
  | e :: es, h => by
    have h1 := lenW_le (es := es) (fun x hx => h x (by simp [hx]))
    have h2 := h e (by simp)
    have e1 : lenW (e :: es) = 1 + e.m + lenW es := by simp [lenW]
    rw [e1, List.length_cons, Nat.add_mul]
    omega
theorem lenM_le {M N : Nat} : ∀ {ess : List (List WE)}, (∀ es ∈ ess, es.length ≤ N ∧ ∀ e ∈ es, e.m ≤ M) → lenM ess ≤ ess.length * (1 + N * (1 + M))
  | [], _ => Nat.zero_le _
  | es :: ess, h => by
    have h1 := lenM_le (ess := ess) (fun x hx => h x (by simp [hx]))
    obtain ⟨h2, h3⟩ := h es (by simp)
    have h4 := lenW_le h3
    have h5 : es.length * (1 + M) ≤ N * (1 + M) := Nat.mul_le_mul_right _ h2
    have e1 : lenM (es :: ess) = 1 + lenW es + lenM ess := by simp [lenM]
    rw [e1, List.length_cons, Nat.add_mul]
    omega
theorem RwM.isM_s {w : World} {v : Value} {ess : List (List WE)} (h : RwM w v ess) {L : Nat} (hl : ∀ es ∈ ess, ∀ e ∈ es, e.m ≤ L) : IsM w v (zsM ess) L := by
  obtain ⟨vs, h1, h2⟩ := h
  refine ⟨vs, by simpa [zsM] using h1, fun i u z hu hz => ?_⟩
  unfold zsM at hz
  rw [List.getElem?_map] at hz
  obtain ⟨es, he, rfl⟩ := Option.map_eq_some_iff.1 hz
  have hR := h2 i u es hu he
  refine ⟨es, hR, rfl, fun e hx => ?_⟩
  obtain ⟨ao, cap, hv, _⟩ := hR.sl e hx
  obtain ⟨_, hm, _⟩ := (Value.slice.injEq .. ▸ hv)
  have := hl es (List.mem_of_getElem? he) e hx
  omega
theorem lenM_shape {ess : List (List WE)} {cols : Int} (hs : Shaped (zsM ess) cols) (hm : ∀ es ∈ ess, ∀ e ∈ es, e.m ≤ 35184372088832) : lenM ess ≤ 100000000000000000 := by
  have h1 : ess.length ≤ 64 := by have := hs.2.2.1; simpa [zsM] using this
  have h2 := lenM_le (M := 35184372088832) (N := 32) (ess := ess) (fun es he => ⟨by
    have h3 := hs.2.2.2 (es.map WE.z) (List.mem_map.2 ⟨es, he, rfl⟩)
    have h4 := hs.2.1
    rw [List.length_map] at h3
    omega, hm es he⟩)
  have h3 : ess.length * (1 + 32 * (1 + 35184372088832)) ≤ 64 * (1 + 32 * (1 + 35184372088832)) := Nat.mul_le_mul_right _ h1
  omega
end Lm
end Go.Proofs.YtnomflballofiaaGreat

namespace Go.Proofs.YtnomflballofiaaGreat
namespace Lm
open Go Go.RowKit Md
set_option maxRecDepth 20000 in
set_option maxHeartbeats 32000000 in
theorem mdual_s (w : World) (v0 v2 : Value) (ess : List (List WE)) (cols : Int) (es : List WE) (h0 : RwM w v0 ess) (h2 : Rw w v2 es) (hlen : (∀ es ∈ ess, ∀ e ∈ es, e.m ≤ 35184372088832) ∧ ∀ e ∈ es, e.m ≤ 35184372088832) :
    Calls Tryz.prog 4 #[v0, .int .i64 cols, v2] w fun e w' => e = .returned (.bool true) ∧ Below w.heap.size w w' := by
  obtain ⟨a0, c0, rfl, hm0⟩ := h0.parts
  obtain ⟨a2, c2, rfl⟩ := h2.slc
  have hl2 := h2.parts.2
  have H0 := hide h0
  have H2 := hide h2
  have HL := hide hlen
  have K1 := hide (awake6 w)
  obtain ⟨iS, si, sz0, sz1, sz2⟩ := info_parts infoSz2
  clear h0 h2 hlen
  obtain ⟨m, hm⟩ : ∃ m, ess.length = m := ⟨_, rfl⟩
  have HM := hide hm
  rw [hm] at H0 hm0 ⊢
  obtain ⟨k2, hk2⟩ : ∃ m, es.length = m := ⟨_, rfl⟩
  have HK2 := hide hk2
  rw [hk2] at H2 hl2 ⊢
  clear hm hk2
  go_enter Tryz.func4, Tryz.ntmps4
  go_wp2_with fail
  refine K1.out.mono ?_
  rintro e w1 ⟨rfl, hb1⟩
  have HB1 := hide hb1
  have K2 := lenrows_s w1 _ ess (H0.out.below hb1) HL.out.1
  obtain ⟨lv, hlv⟩ : ∃ lv, IntKind.i64.wrap (lenM ess : Int) = lv := ⟨_, rfl⟩
  rw [hlv] at K2
  have K2 := hide K2
  have HLV := hide hlv
  clear hlv
  clear hb1 K1
  go_wp2_with fail
  refine K2.out.mono ?_
  rintro e w2 ⟨rfl, hb2⟩
  have HB2 := hide (HB1.out.trans (hb2.mono HB1.out.size))
  have K3 := lenrow_s w2 a2 k2 c2 es (H2.out.below HB2.out) HL.out.2
  obtain ⟨rv, hrv⟩ : ∃ rv, IntKind.i64.wrap (lenW es : Int) = rv := ⟨_, rfl⟩
  rw [hrv] at K3
  have K3 := hide K3
  have HRV := hide hrv
  clear hrv
  obtain ⟨tv, htv⟩ : ∃ tv, IntKind.i64.wrap (lv + rv) = tv := ⟨_, rfl⟩
  have HTV := hide htv
  clear hb2 K2
  go_wp2_with fail
  refine K3.out.mono ?_
  rintro e w3 ⟨rfl, hb3⟩
  have HB3 := hide (HB2.out.trans (hb3.mono HB2.out.size))
  clear hb3 K3
  by_cases hlong : tv > 1500
  · have hl' : tv > 1500 := hlong
    go_wp2
    refine bodyPost_ret (v := _) (by simp [results, Tryz.results4, go_sem]; try rfl) rfl ⟨rfl, HB3.out⟩
  have hl' : decide (tv > 1500) = false := by simp; omega
  have HLZ : Hid ((zsM ess).length = m) := (show (zsM ess).length = m by rw [zsM_len]; exact HM.out)
  have HVL : Hid ((es.map WE.z).length = k2) := (show (es.map WE.z).length = k2 by rw [List.length_map]; exact HK2.out)
  have HIB : Hid (IsM w (.slice a0 m c0) (zsM ess) 35184372088832) := (H0.out.isM_s HL.out.1)
  have K4 := fits_any w3 _ (zsM ess) 35184372088832 (HIB.out.below HB3.out) cols
  by_cases hsh : Shaped (zsM ess) cols
  case neg =>
    rw [decide_eq_false hsh] at K4
    have K4 := hide K4
    go_wp2_with fail
    refine K4.out.mono ?_
    rintro e w4 ⟨rfl, rfl⟩
    go_wp2
    refine bodyPost_ret (v := _) (by simp [results, Tryz.results4, go_sem]; try rfl) rfl ⟨rfl, HB3.out⟩
  rw [decide_eq_true hsh] at K4
  have K4 := hide K4
  obtain ⟨n, rfl⟩ : ∃ n : Nat, cols = (n : Int) := ⟨cols.toNat, by have := hsh.1; omega⟩
  have hn32 : n ≤ 32 := by have := hsh.2.1; omega
  have HRN : Hid (∀ r ∈ zsM ess, r.length = n) := (fun r hr => by have := hsh.2.2.2 r hr; omega)
  have HSH := hide hsh
  clear hsh
  by_cases hkn : k2 = n
  case neg =>
    have hkn' : ((k2 : Int) == (n : Int)) = false := by rw [beq_eq_false_iff_ne]; omega
    have hkn2 : ¬ (k2 : Int) = (n : Int) := by omega
    go_wp2_with fail
    refine K4.out.mono ?_
    rintro e w4 ⟨rfl, rfl⟩
    clear K4
    go_wp2
    refine bodyPost_ret (v := _) (by simp [results, Tryz.results4, go_sem]; try rfl) rfl ⟨rfl, HB3.out⟩
  subst hkn
  have hlm : lenM ess + lenW es ≤ 1500 := by
    have h1 := lenM_shape HSH.out HL.out.1
    have h2 := lenW_le HL.out.2
    have h3 : es.length * (1 + 35184372088832) ≤ 64 * (1 + 35184372088832) := Nat.mul_le_mul_right _ (by have := HK2.out; omega)
    have h4 := HLV.out
    have h5 := HRV.out
    have h6 := HTV.out
    rw [wr64_id (by omega) (by omega)] at h4
    rw [wr64_id (by omega) (by omega)] at h5
    rw [← h4, ← h5, wr64_id (by omega) (by omega)] at h6
    omega
  have HI : Hid (IsM w (.slice a0 m c0) (zsM ess) 1500) := (H0.out.isM (by omega))
  have HV : Hid (IsRow w (.slice a2 k2 c2) (es.map WE.z) 1500) := (rw_isrow H2.out (by omega))
  clear HTV HLV HRV HIB hlm
  generalize hrows : zsM ess = rows at *
  generalize hzs : es.map WE.z = zs at *
  clear hrows hzs
  by_cases hm64 : m < 64
  case neg =>
    have hm64' : (64 : Int) ≤ (m : Int) := by omega
    go_wp2_with fail
    refine K4.out.mono ?_
    rintro e w4 ⟨rfl, rfl⟩
    clear K4
    go_wp2
    refine bodyPost_ret (v := _) (by simp [results, Tryz.results4, go_sem]; try rfl) rfl ⟨rfl, HB3.out⟩
  have hm64' : ¬ (64 : Int) ≤ (m : Int) := by omega
  have K5 := hide (mechelon_any w3 _ rows k2 1500 (HI.out.below HB3.out) HSH.out (by omega))
  go_wp2_with fail
  refine K4.out.mono ?_
  rintro e w4 ⟨rfl, rfl⟩
  clear K4
  go_wp2_with fail
  refine K5.out.mono ?_
  rintro e w5 ⟨hout, hb5⟩
  obtain ⟨R, Q, hE, hans⟩ := hout.el
  obtain ⟨ma, ml, mc, ec, rfl, hA⟩ := ans_of hans
  have HB5 := hide (HB3.out.trans (hb5.mono HB3.out.size))
  have HE := hide hE
  have HA5 := hide hA
  have K6 := hide (mkernel_any w5 _ rows k2 1500 (HI.out.below HB5.out) HSH.out (by omega))
  clear K5 hout hb5 hE hans hA
  go_wp2_with fail
  refine K6.out.mono ?_
  rintro e w6 ⟨hout, hb6⟩
  obtain ⟨R3, Q3, hE3, hans⟩ := hout.el
  obtain ⟨za, zl, zc, gc, rfl, hA⟩ := ans_of hans
  have HB6 := hide (HB5.out.trans (hb6.mono HB5.out.size))
  have HE3 := hide hE3
  have HZ6 := hide hA
  have HA6 := hide (HA5.out.below hb6)
  have K7 := hide (minside_any w6 _ _ rows zs k2 1500 (HI.out.below HB6.out) HSH.out (HV.out.below HB6.out) HVL.out (by omega))
  clear K6 hout hb6 hE3 hans hA HA5
  go_wp2_with fail
  refine K7.out.mono ?_
  rintro e w7 ⟨⟨R5, Q5, bb, hE5, rfl, hbb⟩, hb7⟩
  have HB7 := hide (HB6.out.trans (hb7.mono HB6.out.size))
  have HZ7 := hide (HZ6.out.below hb7)
  have HA7 := hide (HA6.out.below hb7)
  have HIN : Hid (bb = true ↔ RS R (fnR zs)) := (hbb.trans ⟨hE5.rs HE.out, HE.out.rs hE5⟩)
  have K8 := hide (mrank_any w7 _ rows k2 1500 (HI.out.below HB7.out) HSH.out (by omega))
  clear K7 hE5 hbb hb7 HZ6 HA6
  go_wp2_with fail
  refine K8.out.mono ?_
  rintro e w8 ⟨⟨R6, Q6, hE6, rfl⟩, hb8⟩
  have HB8 := hide (HB7.out.trans (hb8.mono HB7.out.size))
  have HZ8 := hide (HZ7.out.below hb8)
  have HA8 := hide (HA7.out.below hb8)
  have hQ := HE.out.same hE6
  subst hQ
  clear K8 hb8 hE6 HZ7 HA7
  obtain ⟨vs, hC, hvr⟩ := HI.out.below HB8.out
  rw [HLZ.out] at hC
  have hone : ∀ u ∈ vs, u.oneCell' = true := fun u hu => by
    obtain ⟨i, hi⟩ := List.mem_iff_getElem?.1 hu
    have hil := (List.getElem?_eq_some_iff.1 hi).1
    obtain ⟨ao', cap', _, _, _, h3, _⟩ := id hC
    obtain ⟨z, hz⟩ : ∃ z, rows[i]? = some z := ⟨_, List.getElem?_eq_getElem (by have := HLZ.out; omega)⟩
    obtain ⟨ua, uc, rfl, _⟩ := (hvr i u z hi hz).parts
    rfl
  have HVR := hide hvr
  clear hvr
  go_wp2_with (at_builtin; refine wpList_append_rows rfl (.const (.slice none 0 0)) (.tmp 70) rfl rfl rfl hC hone (by omega) ?_)
  intro v9 w9 hown9 hb9
  have HB9 := hide (HB8.out.trans (hb9.mono HB8.out.size))
  have hb10 := hAl w9 (.cells #[.slice a2 k2 c2] 34)
  obtain ⟨oa9, oc9, rfl, _⟩ := Ce.own hown9
  have HO9 := hide hown9
  clear hC hone
  go_wp2_with (at_builtin; refine wpList_append_own _ rfl (.tmp 71) (.tmp 73) 22 rfl w8.heap.size 34 iS (.slice none 0 0) 1 24 Tryz.underlying22 si sz0 sz1 sz2 rfl (by decide) _ _ _ rfl (hown9.alloc _) ⟨w9.heap.size, 0, none⟩ 1 1 [.slice a2 k2 c2] rfl rfl (cell_one_new _ _ _) ?c2 ?c3 ?c4 ?c5 ?_)
  case c2 => first | rfl | (intro x hx; simp at hx; subst hx; rfl)
  case c3 => unfold maxLen; omega
  case c4 => omega
  case c5 => simp; have := hb9.size; omega
  intro v11 w11 hown11 hgrow11 _
  have hs89 := hb9.size
  have hb11 : Below w8.heap.size w8 w11 := hb9.trans ((hb10.mono hs89).trans ((Below.refl _ _).grown hgrow11 (Nat.le_trans hs89 hb10.size) (fun j hj => (HO9.out.lt j hj).1)))
  have HB11 := hide (HB8.out.trans (hb11.mono HB8.out.size))
  have hM11 := own_isM (z := zs) (L := 1500) hown11 HLZ.out (fun i u z a b => (HVR.out i u z a b).below hb11) (HV.out.below HB11.out)
  have HZ11 := hide (HZ8.out.below hb11)
  have HA11 := hide (HA8.out.below hb11)
  have hsh2 : Shaped (rows ++ [zs]) (k2 : Int) := ⟨HSH.out.1, HSH.out.2.1, by have := HLZ.out; simp; omega, fun r hr => by
    rcases List.mem_append.1 hr with h | h
    · exact HSH.out.2.2.2 r h
    · rw [List.mem_singleton.1 h, HVL.out]⟩
  have K12 := mrank_any w11 v11 (rows ++ [zs]) k2 1500 hM11 hsh2 (by omega)
  obtain ⟨oa11, oc11, rfl, _⟩ := Ce.own hown11
  have K12 := hide K12
  clear hown9 hb9 hb10 hown11 hgrow11 hb11 hM11 hsh2 hs89 HO9 HZ8 HA8 HVR
  go_wp2_with fail
  refine K12.out.mono ?_
  rintro e w12 ⟨⟨R7, Q7, hE7, rfl⟩, hb12⟩
  have HB12 := hide (HB11.out.trans (hb12.mono HB11.out.size))
  have HZ12 := hide (HZ11.out.below hb12)
  have HA12 := hide (HA11.out.below hb12)
  have hmore := (rank_more HE.out HRN.out HVL.out hE7).1
  obtain ⟨q7, hq7⟩ : ∃ q, Q7.length = q := ⟨_, rfl⟩
  obtain ⟨q1, hq1⟩ : ∃ q, Q.length = q := ⟨_, rfl⟩
  rw [hq7, hq1] at hmore
  rw [hq7, hq1]
  have hbb : bb = ((q7 : Int) == (q1 : Int)) := by
    have h1 := HIN.out
    rw [← hmore] at h1
    cases bb with
    | true => exact (beq_iff_eq.2 (by have := h1.1 rfl; omega)).symm
    | false => exact (beq_eq_false_iff_ne.2 (fun h => by have := h1.2 (by omega); cases this)).symm
  have HBB := hide hbb
  subst hbb
  clear K12 hb12 hE7 hmore hq7 hq1 HZ11 HA11
  rcases HA12.out with ⟨rfl, _⟩ | ⟨rfl, hml, hnb, hOm⟩
  · go_wp2
    refine bodyPost_ret (v := _) (by simp [results, Tryz.results4, go_sem]; try rfl) rfl ⟨rfl, HB12.out⟩
  rcases HZ12.out with ⟨rfl, _⟩ | ⟨rfl, hzl, hnz, hOz⟩
  · clear hOm hnb
    go_wp2
    refine bodyPost_ret (v := _) (by simp [results, Tryz.results4, go_sem]; try rfl) rfl ⟨rfl, HB12.out⟩
  have HM12 := hide hOm
  have HZO := hide hOz
  have HN := hide (And.intro hml (And.intro hnb hzl))
  have K13 := mkernel_any w12 _ (elR k2 (kerE k2 R3 Q3)) k2 32 hOz.is (kerE_shaped hn32) (by omega)
  have K13 := hide K13
  have hzl32 : zl ≤ 32 := by rw [hzl, elR_len, kerE_len]; have := free_le k2 Q3; omega
  clear hOm hOz hml hnb hzl hnz HA12 HZ12
  go_wp2_with fail
  refine K13.out.mono ?_
  rintro e w13 ⟨hout, hb13⟩
  obtain ⟨R8, Q8, hE8, hcase⟩ := hout.el
  rw [ker_ker HE.out HE3.out HRN.out hE8] at hcase
  have HB13 := hide (HB12.out.trans (hb13.mono HB12.out.size))
  have HM13 := hide (HM12.out.below hb13)
  have HZ13 := hide (HZO.out.below hb13)
  rcases hcase with ⟨⟨r, hr, hrb⟩, _⟩ | ⟨_, bv, rfl, hOb⟩
  · exact absurd hrb (by rw [HN.out.2.1 r hr]; decide)
  obtain ⟨ba, bc, rfl, _⟩ := hOb.is.parts
  rw [← HN.out.1] at hOb ⊢
  have HOB := hide hOb
  clear K13 hout hb13 hE8 hOb HM12 HZO
  go_wp2
  go_loopw [19, 20] (fun nv qv wr => ∃ q : Nat, qv = .int .i64 (q : Int) ∧ nv = .bool (noneB k2 zs (elR k2 (kerE k2 R3 Q3)) q) ∧ q ≤ zl ∧ Below w13.heap.size w13 wr) (fun _ qv _ => zl - (intOf qv).toNat)
  case atStart => exact ⟨0, rfl, rfl, Nat.zero_le _, Below.refl _ _⟩
  case round =>
    obtain ⟨q, rfl, rfl, hq, hbq⟩ := hrel
    have HBQ := hide hbq
    by_cases hlt : q < zl
    · have hlt' : (q : Int) < (zl : Int) := by omega
      have HLT := hide hlt
      obtain ⟨y, hy⟩ : ∃ y, (elR k2 (kerE k2 R3 Q3))[q]? = some y := ⟨_, List.getElem?_eq_getElem (by have := HN.out.2.2; omega)⟩
      have HNX := hide (noneB_next (n := k2) (v := zs) hy)
      cases hnq : noneB k2 zs (elR k2 (kerE k2 R3 Q3)) q with
      | false =>
        rw [hnq] at HNX
        clear hbq hy hnq
        go_wp2
        go_roundw
        case rel => exact ⟨q + 1, by go_num, by rw [HNX.out]; rfl, HLT.out, HBQ.out⟩
        case measure => have := HLT.out; simp [intOf]; omega
      | true =>
        rw [hnq] at HNX
        have hyl := elR_row y (List.mem_of_getElem? hy)
        obtain ⟨bz, oz, uz, rfl, hblz, z0, hz⟩ := HZ13.out.is.cell hy
        replace z0 := (hbq.cell (p := ⟨bz, oz + q, none⟩) hblz).trans z0
        obtain ⟨ya, yc, rfl, _⟩ := hz.parts
        rw [hyl] at hz z0
        have hb0 := HB13.out.trans (hbq.mono HB13.out.size)
        have K14 := hide (ldot_any wr _ _ zs y 1500 k2 (HV.out.below hb0) ((hz.below hbq).wide (by omega)) HVL.out hyl (by omega) (by omega))
        clear hbq hy hnq hyl hz hb0
        go_wp2_with fail
        refine K14.out.mono ?_
        rintro e w14 ⟨v14, rfl, h14, hb14⟩
        have HB14 := hide (HBQ.out.trans (hb14.mono HBQ.out.size))
        have K15 := hide (signF w14 _ v14 (1500 + 1500 + 1) h14.is (by omega))
        obtain ⟨ng4, a4, m4, c4, rfl⟩ := h14.agg
        clear K14 h14 hb14 z0
        generalize dotN k2 (fnR zs) (fnR y) = d at *
        go_wp2_with fail
        refine K15.out.mono ?_
        rintro e w15 ⟨rfl, hb15⟩
        have HB15 := hide (HB14.out.trans (hb15.mono HB14.out.size))
        clear K15 hb15
        by_cases hd : d = 0
        · subst hd
          go_wp2
          go_roundw
          case rel => exact ⟨q + 1, by go_num, by rw [HNX.out]; rfl, HLT.out, HB15.out⟩
          case measure => have := HLT.out; simp [intOf]; omega
        · have hs0 : (Int.sign d == 0) = false := by rw [beq_eq_false_iff_ne]; exact fun h => hd (Int.sign_eq_zero_iff_zero.1 h)
          have HD : Hid (decide (d = 0) = false) := decide_eq_false hd
          generalize Int.sign d = sd at *
          go_wp2
          go_roundw
          case rel => exact ⟨q + 1, by go_num, by rw [HNX.out, HD.out]; rfl, HLT.out, HB15.out⟩
          case measure => have := HLT.out; simp [intOf]; omega
    · have hlt' : decide ((q : Int) < (zl : Int)) = false := by simp; omega
      have hqe : q = zl := by omega
      subst hqe
      have hnone : noneB k2 zs (elR k2 (kerE k2 R3 Q3)) q = ((q7 : Int) == (q1 : Int)) := by
        have h1 := noneB_all (n := k2) (v := zs) (Z := elR k2 (kerE k2 R3 Q3))
        rw [← HN.out.2.2, ← ker_iff HE.out HE3.out HRN.out (fun c hc => fnR_out (by rw [HVL.out]; exact hc)), ← HIN.out] at h1
        exact Bool.eq_iff_iff.2 h1
      rw [hnone]
      have K16 := hide (samerows_any wr _ _ (elR k2 (efOf R Q)) 32 32 (HOB.out.below hbq).can (HM13.out.below hbq).can)
      clear hbq hnone
      go_wp2_with fail
      refine K16.out.mono ?_
      rintro e w16 ⟨rfl, hb16⟩
      have HB16 := hide ((HB13.out.trans (HBQ.out.mono HB13.out.size)).trans (hb16.mono (HB13.out.trans (HBQ.out.mono HB13.out.size)).size))
      clear K16 hb16
      go_wp2
      refine bodyPost_ret (v := _) (by simp [results, Tryz.results4, go_sem]; try rfl) rfl ⟨rfl, HB16.out⟩
end Lm
end Go.Proofs.YtnomflballofiaaGreat

namespace Go.Proofs.YtnomflballofiaaGreat
namespace matrixDualLaw
open Go.ChangeShapes Go.WideShapes Go.ChangeAt Go.RowKit
open Go.ChangeMaps (open_string shut_string)
theorem own : ownKnob Tryz.prog.godebug = none := by kernel_rfl
theorem laidOut : laidOutB Tryz.prog = true := by kernel_rfl
set_option linter.unusedVariables false in
set_option maxRecDepth 100000 in
theorem lifted (os : Os) (started : os.Started) (H : Type) (enc : TypeId × Value → H) :
    ReturnsInHanded {} Tryz.checked os 4 .any (Rows.matrixDualSpec.pre6 enc Tryz.prog Tryz.f4 Rows.matrixDualRow.domain false) (Rows.matrixDualSpec.post enc Tryz.prog Tryz.f4 false true false false) := by
  refine returnsInHanded_of_change_sized (C := Tryz.checked) own started (by kernel_rfl) Tryz.func4
    (ChangeSpec.witness6 (enc := enc) (C := Tryz.checked) false ⟨#[], #[.slice none 0 0, .int .i64 0, .slice none 0 0], []⟩ 8 (by kernel_rfl) (by kernel_rfl) (by kernel_rfl) (by kernel_rfl)) ?_
  intro W base args ds gs before hval0 hW hcnd hsz0 _
  have hval : ∀ (j : Nat) t v, Tryz.f4.params[j]? = some t → args[j]? = some v → Value.okWide Tryz.prog W .any base t v := hval0
  have hW' := hW
  obtain ⟨p, q, hA0, hV, rfl, hfz, hnd⟩ := hW
  have hA : DataW.TrodAll enc Tryz.prog W 0 (fun _ => true) true Tryz.f4.params.toList args.toList ds p := hA0
  have hsz : (DataW.weightsEach Tryz.prog (Tryz.f4.params.toList ++ Rows.matrixDualSpec.plain.varTypes Tryz.prog) (ds ++ gs)).all (· ≤ reachBytes) = true := hsz0
  rw [Tryz.params4] at hA hval hsz
  obtain ⟨v0, vs0, d0, ds0, p0, q0, hargs, rfl, rfl, h0, r_0⟩ := trodAll_cons hA
  obtain ⟨v1, vs1, d1, ds1, p1, q1, rfl, rfl, rfl, h1, r_1⟩ := trodAll_cons r_0
  obtain ⟨v2, vs2, d2, ds2, p2, q2, rfl, rfl, rfl, h2, r_2⟩ := trodAll_cons r_1
  obtain ⟨rfl, rfl, rfl⟩ := trodAll_nil r_2
  obtain rfl : args = #[v0, v1, v2] := by cases args; simp_all
  obtain ⟨rfl, rfl⟩ := trodVars_none hV
  obtain ⟨a0, len0, cap0, rfl⟩ := okWide_slice Tryz.underlying22 (hval 0 22 v0 rfl rfl)
  have k0 := h0
  have lt0 : ∀ x ∈ p0, x.block < W.heap.size := by obtain ⟨m, hm⟩ := k0; exact DataW.trod_lt m _ _ _ hm
  obtain ⟨z0, w0, b0⟩ : ∃ ess, Lm.RwM W (.slice a0 len0 cap0) ess ∧ ∀ es ∈ ess, ∀ e ∈ es, e.m ≤ 35184372088832 := by
    obtain ⟨fuel, hf⟩ := h0
    refine Lm.open_rows_s (x := (d0, p0)) (by simpa [Value.cells] using hf) (fun k hk => ?_)
    have := List.all_eq_true.1 hsz k (DataW.weights_mem_each (j := 0) (t := 22) (d := d0) rfl rfl k hk)
    simpa using this
  obtain ⟨a1, rfl, rfl, rfl, w1⟩ := open_int Tryz.underlying3 (hval 1 3 v1 rfl rfl) h1
  obtain ⟨a2, len2, cap2, rfl⟩ := okWide_slice Tryz.underlying34 (hval 2 34 v2 rfl rfl)
  have k2 := h2
  have lt2 : ∀ x ∈ p2, x.block < W.heap.size := by obtain ⟨m, hm⟩ := k2; exact DataW.trod_lt m _ _ _ hm
  obtain ⟨z2, w2, b2⟩ : ∃ es, Lm.Rw W (.slice a2 len2 cap2) es ∧ ∀ e ∈ es, e.m ≤ 35184372088832 := by
    obtain ⟨fuel, hf⟩ := h2
    refine Lm.open_row_s (x := (d2, p2)) (by simpa [Value.cells] using hf) (fun k hk => ?_)
    have := List.all_eq_true.1 hsz k (DataW.weights_mem_each (j := 2) (t := 34) (d := d2) rfl rfl k hk)
    simpa using this
  clear hA0 hval0
  refine (Lm.mdual_s W (.slice a0 len0 cap0) (.slice a2 len2 cap2) z0 a1 z2 w0 w2 ⟨b0, b2⟩).mono fun e W' ⟨he, bel⟩ => ?_
  subst he
  exact ⟨_, rfl, _, _, _, [], _, [], hW', trodAll_mk1 (shut_bool Tryz.underlying4 _), (trodAll_cons_mk (Below.trod laidOut (by kernel_rfl) (of_decide_eq_true (by kernel_rfl)) k0 bel lt0) (trodAll_cons_mk (shut_int Tryz.underlying3 w1) (trodAll_cons_mk (Below.trod laidOut (by kernel_rfl) (of_decide_eq_true (by kernel_rfl)) k2 bel lt2) trodAll_mk0))), rfl, bel.frame _, fun h => by cases h⟩
theorem over : Rows.matrixDualRow.holds Tryz.pinned (OpenSpec.ofChange Rows.matrixDualSpec) :=
  OpenClaim.holds_of_wide 4 Tryz.f4 rfl rfl rfl rfl rfl rfl rfl ⟨rfl, rfl, rfl, rfl, rfl⟩ rfl rfl rfl rfl rfl (by kernel_rfl) Tryz.func4 (by kernel_rfl)
    (of_decide_eq_true (by kernel_rfl)) (by unfold Func.isWrapper; first | (rw [if_pos (by decide +kernel)]; kernel_rfl) | (rw [if_neg (by decide +kernel)]; exact ⟨rfl, rfl⟩))
    (fun os started H enc _ => lifted os started H enc)
end matrixDualLaw
theorem matrixDual_holds : Rows.MatrixDualSaid := matrixDualLaw.over
#print axioms matrixDual_holds
end Go.Proofs.YtnomflballofiaaGreat

