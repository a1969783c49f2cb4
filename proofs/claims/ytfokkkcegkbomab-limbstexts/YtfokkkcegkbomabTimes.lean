/-
  The contract of timesPlus.
-/
import Derived.Test.YtfokkkcegkbomabWrap
namespace Go.Proofs.Ytfokkkcegkbomab
namespace Lm
open Go.RowKit

theorem scale_val {zs qs : List Int} {k : Nat} {z c m more s : Int} (hk : qs.length = k) (hz : zs.getD k 0 = z) (hs : s = z * m + c) (h : val qs + pw k * c = vf zs k * m + more) :
    val (qs ++ [s % 4294967296]) + pw (k + 1) * (s / 4294967296) = vf zs (k + 1) * m + more := by
  rw [val_snoc, vf, hz, hk, pw, Int.add_mul]
  have e : s = s % 4294967296 + 4294967296 * (s / 4294967296) := by omega
  have e2 : pw k * (s % 4294967296) + 4294967296 * pw k * (s / 4294967296) = pw k * s := by
    rw [Int.mul_comm 4294967296 (pw k), Int.mul_assoc, ← Int.mul_add, ← e]
  have e3 : pw k * z * m = pw k * (z * m) := by rw [Int.mul_assoc]
  rw [Int.add_assoc, e2, hs, Int.mul_add, e3]
  omega

/-- A list of limbs that is worth as much as its length says has none 0 on top. -/
theorem canon_of_val {zs : List Int} (h : Limb zs) (hv : zs ≠ [] → pw (zs.length - 1) ≤ val zs) : Canon zs := by
  refine ⟨h, ?_⟩
  have h1 := tl_le zs
  apply Classical.byContradiction
  intro hn
  have hne : zs ≠ [] := by intro e; subst e; exact hn rfl
  have h2 := hv hne
  have h3 := (val_bounds (limb_take h (tl zs))).2
  rw [val_take_tl, List.length_take, Nat.min_eq_left h1] at h3
  have h4 := pw_mono (m := tl zs) (n := zs.length - 1) (by omega)
  omega

theorem scale_canon {zs qs : List Int} {m more : Int} (hz : Canon zs) (hq : Limb qs) (hl : qs.length = zs.length) (hm : 1 ≤ m) (hmo : 0 ≤ more) (hv : val qs = val zs * m + more) : Canon qs := by
  apply canon_of_val hq
  intro hne
  have h1 := canon_low hz (by intro e; subst e; exact hne (List.eq_nil_of_length_eq_zero (by simpa using hl)))
  have h2 := (val_bounds hz.1).1
  have h3 : val zs * 1 ≤ val zs * m := Int.mul_le_mul_of_nonneg_left hm h2
  rw [hl, hv]
  omega

theorem canon_snoc {qs : List Int} {c : Int} (hq : Limb qs) (h0 : 0 < c) (h1 : c < 4294967296) : Canon (qs ++ [c]) := by
  refine ⟨limb_append.2 ⟨hq, limb_cons.2 ⟨by omega, limb_nil⟩⟩, ?_⟩
  have h2 := tl_gt (zs := qs ++ [c]) (n := qs.length) (by simp; omega)
  have h3 := tl_le (qs ++ [c])
  simp at h3 ⊢
  omega

/-- A list of the call's own, from block B on, worth x, none 0 on top. -/
def Has (B : Nat) (w : World) (v : Value) (x : Int) (n : Nat) : Prop := ∃ zs, w.ownsRow B 45 1 v zs.length (zs.map (Value.int .u32)) ∧ Canon zs ∧ val zs = x ∧ zs.length = n

theorem owns_row {B g cap : Nat} {w : World} {cur : Array Value} {zs : List Int} (hB : B ≤ g) (hh : w.heap[g]? = some (.cells cur 45 (0, 0))) (h1 : zs.length ≤ cap) (h2 : cap ≤ maxLen) (hs : cur.size = cap) (ha : At cur .u32 0 zs) : w.ownsRow B 45 1 (.slice (some ⟨g, 0, none⟩) zs.length cap) zs.length (zs.map (Value.int .u32)) := by
  refine ⟨by simp, .inr ⟨g, cap, cur, rfl, hB, hh, h1, h2, by omega, ?_⟩⟩
  apply List.ext_getElem?
  intro i
  rw [List.getElem?_take, List.getElem?_map]
  by_cases hi : i < zs.length
  · have e := ha i hi
    rw [Nat.zero_add] at e
    rw [if_pos (by omega), Array.getElem?_toList, e, List.getElem?_eq_getElem hi, List.getD_eq_getElem?_getD, List.getElem?_eq_getElem hi]
    rfl
  · rw [if_neg (by omega), List.getElem?_eq_none (by omega)]
    rfl

theorem row_owns {B n : Nat} {w : World} {v : Value} {zs : List Int} (h : w.ownsRow B 45 1 v n (zs.map (Value.int .u32))) (h0 : 0 < n) : ∃ g cap cur, v = .slice (some ⟨g, 0, none⟩) n cap ∧ B ≤ g ∧ w.heap[g]? = some (.cells cur 45 (0, 0)) ∧ n ≤ cap ∧ cap ≤ maxLen ∧ cur.size = cap ∧ At cur .u32 0 zs := by
  have hn : zs.length = n := by simpa using h.1
  rcases h.2 with ⟨_, h2⟩ | ⟨g, cap, cur, rfl, hg, hh, hc1, hc2, hs, ht⟩
  · omega
  · refine ⟨g, cap, cur, rfl, hg, hh, hc1, hc2, by omega, fun i hi => ?_⟩
    have e : (cur.toList.take (n * 1))[i]? = (zs.map (Value.int .u32))[i]? := by rw [ht]
    rw [List.getElem?_take, if_pos (by omega)] at e
    rw [Nat.zero_add, ← Array.getElem?_toList, e, List.getElem?_map, List.getElem?_eq_getElem hi, List.getD_eq_getElem?_getD, List.getElem?_eq_getElem hi]
    rfl

theorem grown_has {B n : Nat} {w wr w1 : World} {v v' : Value} {qs : List Int} {c x : Int} {o : Obj} (h : w1.ownsRow B 45 1 v' (n + 1) (qs.map (Value.int .u32) ++ [.int .u32 c])) (hg : (wr.alloc o).grownBy w1 v.ownBlock) (hb : Below B w wr) (hB : B ≤ wr.heap.size) (hl : ∀ j, v.ownBlock = some j → B ≤ j ∧ j < wr.heap.size)
    (hq : qs.length = n) (hc : Canon (qs ++ [c])) (hv : val (qs ++ [c]) = x) : Has B w1 v' x (n + 1) ∧ Below B w w1 := by
  subst hq
  refine ⟨⟨qs ++ [c], by simpa using h, hc, hv, by simp⟩, (hb.alloc hB o).grown hg (by simp; omega) (fun j hj => (hl j hj).1)⟩

set_option maxHeartbeats 1000000 in
theorem times_any (B : Nat) (w : World) (v : Value) (n : Nat) (x m more : Int) (h : Has B w v x n) (hB : B ≤ w.heap.size) (hm : 1 ≤ m ∧ m ≤ 1000000000) (hmo : 0 ≤ more ∧ more < 4294967296) (hn : n ≤ 100000) :
    Calls Try.prog 35 #[v, .int .u32 m, .int .u32 more] w fun e w' => ∃ v' n', e = .returned v' ∧ Has B w' v' (x * m + more) n' ∧ n' ≤ n + 1 ∧ Below B w w' := by
  obtain ⟨zs, hown, hc, hv, hl⟩ := h
  obtain ⟨i0, hi, hz0, hz1, hz2⟩ := info_parts info32
  by_cases h0 : 0 < n
  · subst hl
    obtain ⟨g, cap, cur, rfl, hg, hh, hc1, hc2, hcs, hat⟩ := row_owns hown h0
    unfold maxLen at hc2
    have HC := hide hc
    have HX := hide hv
    have HH := hide hh
    have HS := hide hcs
    have HA := hide hat
    clear hc hv hown hh hcs hat
    go_enter Try.func35, Try.ntmps35
    go_wp2
    go_loopw [7, 15] (fun cv i wr => ∃ (k : Nat) (c : Int) (qs : List Int) (cur' : Array Value), k ≤ zs.length ∧ cv = .int .u64 c ∧ i = .int .i64 k ∧ (0 ≤ c ∧ c < 4294967296) ∧ qs.length = k ∧ Limb qs ∧ val qs + pw k * c = vf zs k * m + more ∧ Wr w wr g cur' 45 ∧ cur'.size = cap ∧ At cur' .u32 0 (qs ++ zs.drop k)) (fun _ i _ => zs.length - (intOf i).toNat)
    case atStart => exact ⟨0, more, [], cur, Nat.zero_le _, rfl, rfl, hmo, rfl, limb_nil, by simp [val, vf, pw], Wr.refl HH.out, HS.out, by simpa using HA.out⟩
    case round =>
      obtain ⟨k, c, qs, cur', hk, rfl, rfl, hcb, hql, hq, hval, hwr, hcs, hat⟩ := hrel
      have HQL := hide hql
      have HQ := hide hq
      have HV := hide hval
      have HW := hide hwr
      have HCS := hide hcs
      have HT := hide hat
      clear hql hq hval hwr hcs hat
      by_cases hlt : k < zs.length
      · have hlen : (qs ++ zs.drop k).length = zs.length := by have := HQL.out; simp; omega
        have co := HT.out.cell HW.out.here k (by rw [hlen]; omega)
        have e1 : (qs ++ zs.drop k).getD k 0 = zs.getD k 0 := by
          rw [List.getD_eq_getElem?_getD, List.getElem?_append_right (by have := HQL.out; omega), List.getElem?_drop, List.getD_eq_getElem?_getD, HQL.out]
          congr 2
          omega
        rw [e1, Nat.zero_add] at co
        have hfree := HW.out.free k
        have bz := limb_getD HC.out.1 k
        obtain ⟨z, hz⟩ : ∃ z, zs.getD k 0 = z := ⟨_, rfl⟩
        rw [hz] at co bz
        have hzm : 0 ≤ z * m ∧ z * m ≤ 4294967295 * 1000000000 := by
          refine ⟨Int.mul_nonneg bz.1 (by omega), ?_⟩
          have h1 : z * m ≤ 4294967295 * m := Int.mul_le_mul_of_nonneg_right (by omega) (by omega)
          omega
        have HV' := hide (scale_val (m := m) HQL.out hz rfl HV.out)
        have HT' := hide (HT.out.set k ((z * m + c) % 4294967296))
        have HW' := hide (HW.out.set k (.int .u32 ((z * m + c) % 4294967296)))
        have d1 : (k : Int) < (zs.length : Int) := by omega
        clear hlen e1 hz
        go_wp2
        go_roundw
        case rel => exact ⟨k + 1, (z * m + c) / 4294967296, qs ++ [(z * m + c) % 4294967296], _, by omega, rfl, by go_num, by omega, by have := HQL.out; simp; omega, limb_append.2 ⟨HQ.out, limb_cons.2 ⟨by omega, limb_nil⟩⟩, HV'.out, HW'.out, by simpa using HCS.out, by rw [← set_snoc qs zs k _ HQL.out (by omega)]; simpa using HT'.out⟩
        case measure => simp [intOf]; omega
      · have hkn : k = zs.length := by omega
        subst hkn
        have hat2 := HT.out
        rw [List.drop_of_length_le (Nat.le_refl _), List.append_nil] at hat2
        have hown2 := owns_row (cap := cap) hg HW.out.here (by have := HQL.out; omega) (by unfold maxLen; omega) HCS.out hat2
        rw [HQL.out] at hown2
        have hbw : Below B w wr := HW.out.below hg
        have hvv := HV.out
        rw [vf_all zs _ (Nat.le_refl _), HX.out] at hvv
        have hBr : B ≤ wr.heap.size := by rw [HW.out.size]; exact hB
        have HVV := hide hvv
        clear hat2 hvv
        by_cases hc0 : c = 0
        · have HF : Hid (Has B wr (.slice (some ⟨g, 0, none⟩) zs.length cap) (x * m + more) zs.length) := by
            have h9 := HVV.out
            rw [hc0, Int.mul_zero, Int.add_zero] at h9
            exact ⟨qs, by rw [HQL.out]; exact hown2, scale_canon HC.out HQ.out HQL.out hm.1 hmo.1 (by rw [HX.out]; exact h9), h9, HQL.out⟩
          subst hc0
          clear hown2
          go_wp2
          go_ret
          exact ⟨_, zs.length, rfl, HF.out, by omega, hbw⟩
        · have hne : (c != 0) = true := by rw [bne_iff_ne]; exact hc0
          have hcn := hide (canon_snoc HQ.out (c := c) (by omega) hcb.2)
          go_wp2_with (at_builtin; refine wpList_append_own _ rfl (.tmp 37) (.tmp 40) 23 rfl B 45 i0 (.int .u32 0) 1 4 Try.underlying23 hi hz0 hz1 hz2 rfl (by decide) _ _ _ rfl (hown2.alloc _) ⟨wr.heap.size, 0, none⟩ 1 1 [.int .u32 c] rfl rfl (cell_one_new _ _ _) ?d2 ?d3 ?d4 ?d5 ?_)
          case d2 => first | rfl | (intro u hu; simp at hu; subst hu; rfl)
          case d3 => unfold maxLen; omega
          case d4 => omega
          case d5 => first | omega | (simp; omega)
          intro v' w1 hown' hgrow _
          have R := grown_has (x := x * m + more) hown' hgrow hbw hBr hown2.lt HQL.out hcn.out (by rw [val_snoc, HQL.out]; exact HVV.out)
          clear hown' hgrow hown2
          go_wp2
          go_ret
          exact ⟨_, zs.length + 1, rfl, R.1, by omega, R.2⟩
  · have e0 : zs = [] := List.eq_nil_of_length_eq_zero (by omega)
    subst e0
    have hx0 : x = 0 := by rw [← hv]; rfl
    have hn0 : n = 0 := by omega
    have hv0 : v = .slice none 0 0 ∨ ∃ g cap, v = .slice (some ⟨g, 0, none⟩) 0 cap ∧ cap ≤ maxLen := by
      rcases hown.2 with ⟨e, _⟩ | ⟨g, cap, cur, e, _, _, _, h2, _⟩
      · exact .inl e
      · exact .inr ⟨g, cap, e, h2⟩
    subst hx0 hn0
    by_cases hm0 : more = 0
    · subst hm0
      have HH : Hid (Has B w v 0 0) := ⟨[], hown, canon_nil, rfl, rfl⟩
      rcases hv0 with rfl | ⟨g, cap, rfl, hcap⟩
      · go_enter Try.func35, Try.ntmps35
        go_wp2
        refine wp_loop_rounds 1 ?_
        rw [rounds_succ]
        go_wp2
        go_ret
        exact ⟨_, 0, rfl, by simpa using HH.out, by omega, Below.refl _ _⟩
      · unfold maxLen at hcap
        clear hown
        go_enter Try.func35, Try.ntmps35
        go_wp2
        refine wp_loop_rounds 1 ?_
        rw [rounds_succ]
        go_wp2
        go_ret
        exact ⟨_, 0, rfl, by simpa using HH.out, by omega, Below.refl _ _⟩
    · have hne : (more != 0) = true := by rw [bne_iff_ne]; exact hm0
      have hcn := hide (canon_snoc (qs := []) limb_nil (c := more) (by omega) hmo.2)
      have HO := hide hown
      rcases hv0 with rfl | ⟨g, cap, rfl, hcap⟩
      · try unfold maxLen at hcap
        go_enter Try.func35, Try.ntmps35
        go_wp2
        refine wp_loop_rounds 1 ?_
        rw [rounds_succ]
        go_wp2_with (at_builtin; refine wpList_append_own _ rfl (.tmp 37) (.tmp 40) 23 rfl B 45 i0 (.int .u32 0) 1 4 Try.underlying23 hi hz0 hz1 hz2 rfl (by decide) _ _ _ rfl (hown.alloc _) ⟨w.heap.size, 0, none⟩ 1 1 [.int .u32 more] rfl rfl (cell_one_new _ _ _) ?e2none ?e3none ?e4none ?e5none ?_)
        case e2none => first | rfl | (intro u hu; simp at hu; subst hu; rfl)
        case e3none => unfold maxLen; simp
        case e4none => simp
        case e5none => first | omega | (simp; omega)
        intro v' w1 hown' hgrow _
        have R := grown_has (w := w) (qs := []) (x := 0 * m + more) hown' hgrow (Below.refl _ _) hB HO.out.lt rfl hcn.out (by simp [val])
        clear hown' hgrow
        go_wp2
        go_ret
        exact ⟨_, 1, rfl, R.1, by omega, R.2⟩
      · try unfold maxLen at hcap
        go_enter Try.func35, Try.ntmps35
        go_wp2
        refine wp_loop_rounds 1 ?_
        rw [rounds_succ]
        go_wp2_with (at_builtin; refine wpList_append_own _ rfl (.tmp 37) (.tmp 40) 23 rfl B 45 i0 (.int .u32 0) 1 4 Try.underlying23 hi hz0 hz1 hz2 rfl (by decide) _ _ _ rfl (hown.alloc _) ⟨w.heap.size, 0, none⟩ 1 1 [.int .u32 more] rfl rfl (cell_one_new _ _ _) ?e2some ?e3some ?e4some ?e5some ?_)
        case e2some => first | rfl | (intro u hu; simp at hu; subst hu; rfl)
        case e3some => unfold maxLen; simp
        case e4some => simp
        case e5some => first | omega | (simp; omega)
        intro v' w1 hown' hgrow _
        have R := grown_has (w := w) (qs := []) (x := 0 * m + more) hown' hgrow (Below.refl _ _) hB HO.out.lt rfl hcn.out (by simp [val])
        clear hown' hgrow
        go_wp2
        go_ret
        exact ⟨_, 1, rfl, R.1, by omega, R.2⟩

end Lm
end Go.Proofs.Ytfokkkcegkbomab
