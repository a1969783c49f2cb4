/-
  The contract of the reference's Trim. The contract of timesPlus. The contract of Parse. Texts and their bytes; what Parse answers of every text. The contract of the reference's Text. The contract of the reference's Digits. The contracts of the reference's Natural and Parse. LimbsTexts answers true, whatever text and list of limbs it is handed. The contracts of takeTimes and addBack. The contracts of addBack, moveUp and LeadingZeros32. The contracts of LeadingZeros32 and moveUp. The contract of moveDown. The contract of guessLimb. Plain facts on the long division: what the guess of a limb is worth. No program is named here. What the long division keeps from round to round: facts on memory and lists, without the program. The contract of divideLong. The contract of DivMod, for every divisor. Whole numbers: the contract of DivMod. Whole numbers: the contract of Text. The statements' awake answers true. The contracts of Uint, gcdShort and Gcd. What the laws on fractions lean on. The contracts of the reference's Sign, Size and Cmp. The contracts of the reference's plus: two magnitudes together. The contract of the reference's less: a magnitude less one that is not above it. The reference's numbers with signs: what a sign and digits are worth; the contract of made. The contract of the reference's Minus and Abs. The contract of Book's Own. The contracts of the reference's Of and Told: whole numbers as they are handed in, and as they are told. Structs that hold the document's own numbers and fractions, and single operations on them, over a frame that is not written out. Regions as Inv4 has them, in which calls may also write single blocks that stood already (what is lent). No function is named here. What is lent, and what lies in memory of its own, in regions that are gone through in stretches. LimbsNumbers answers true, whatever number and list of limbs it is handed. A whole number copied as it lies. The contract of the document's Text of a number below 0.
-/
import Derived.Lib.OthersKept
import Derived.Laws.RangeAny
import Derived.Lib.Strings
import Derived.Laws.BytesArg
import Derived.Deep.QuietTactic
import Derived.BigQuiet
import Derived.Deep.RegionWith
import Derived.Deep.RegionHeld3
import Derived.Deep.AppendLies
import Derived.Deep.DeepCutAuto
import Derived.OpenShut
import Derived.Test.YtdiiankcjgoecaaDoorWTlLawZ0
namespace Go.Proofs.YtdiiankcjgoecaaDoor
namespace Dm
open Go.RowKit
open Lm (hide lt_of_cell lt_of_heap div_of info32)
set_option maxRecDepth 20000 in
set_option maxHeartbeats 400000 in
theorem limbs_none (w : World) (ng : Bool) (ao : Option Addr) (cap : Nat) (_hcap : cap ≤ 9223372036854775807) :
    Calls Tryd.prog 86 #[.agg #[.bool ng, .slice ao 0 cap]] w fun e w' => ∃ v, e = .returned v ∧ Lm.Is w.heap.size w' v 0 ∧ Below w.heap.size w w' := by
  cases ao with
  | none =>
    go_enter Tryd.func86, Tryd.ntmps86
    go_wp2
    refine wp_loop_rounds 1 ?_
    rw [rounds_succ]
    go_wp2
    go_ret
    exact ⟨_, rfl, ⟨[], ⟨none, 0, rfl, Nat.le_refl _, by simp [maxLen], Lm.limb_nil, .inl rfl⟩, Lm.canon_nil, rfl⟩, (Below.refl _ _).alloc (Nat.le_refl _) _⟩
  | some ad =>
    go_enter Tryd.func86, Tryd.ntmps86
    go_wp2
    refine wp_loop_rounds 1 ?_
    rw [rounds_succ]
    go_wp2
    go_ret
    exact ⟨_, rfl, ⟨[], ⟨none, 0, rfl, Nat.le_refl _, by simp [maxLen], Lm.limb_nil, .inl rfl⟩, Lm.canon_nil, rfl⟩, (Below.refl _ _).alloc (Nat.le_refl _) _⟩
theorem limbs_any (w : World) (ng : Bool) (ao : Option Addr) (cap : Nat) (D : List Int) (x : Int) (hD : Got w ao cap D x) (M : Nat) (hx : x < Lm.pw M) (hM : M ≤ 1000000) (hl : D.length ≤ 1000000) :
    Calls Tryd.prog 86 #[.agg #[.bool ng, .slice ao D.length cap]] w fun e w' => ∃ v, e = .returned v ∧ Lm.Is w.heap.size w' v x ∧ Below w.heap.size w w' := by
  by_cases h0 : 0 < D.length
  · exact limbs_loop w ng ao cap D x hD M hx hM hl h0
  · have e : D = [] := List.eq_nil_of_length_eq_zero (by omega)
    have hx0 : x = 0 := by rw [← hD.val, e]; rfl
    have hc := hD.sl.parts.2.2.1
    rw [hx0, e]
    exact limbs_none w ng ao cap hc
end Dm
end Go.Proofs.YtdiiankcjgoecaaDoor

namespace Go.Proofs.YtdiiankcjgoecaaDoor
namespace Lm
open Go.RowKit
theorem scale_val {zs qs : List Int} {k : Nat} {z c m more s : Int} (hk : qs.length = k) (hz : zs.getD k 0 = z) (hs : s = z * m + c) (h : val qs + pw k * c = vf zs k * m + more) :
    val (qs ++ [s % 4294967296]) + pw (k + 1) * (s / 4294967296) = vf zs (k + 1) * m + more := by
  rw [val_snoc, vf, hz, hk, pw, Int.add_mul]
  have e : s = s % 4294967296 + 4294967296 * (s / 4294967296) := by omega
  have e2 : pw k * (s % 4294967296) + 4294967296 * pw k * (s / 4294967296) = pw k * s := by
    rw [Int.mul_comm 4294967296 (pw k), Int.mul_assoc, ← Int.mul_add, ← e]
  have e3 : pw k * z * m = pw k * (z * m) := by rw [Int.mul_assoc]
  rw [Int.add_assoc, e2, hs, Int.mul_add, e3]
  omega
theorem canon_of_val {zs : List Int} (h : Limb zs) (hv : zs ≠ [] → pw (zs.length - 1) ≤ val zs) : Canon zs := by
  refine ⟨h, ?_⟩
  have h1 := tl_le zs
  apply Classical.byContradiction
  intro hn
  have hne : zs ≠ [] := by intro e; subst e; exact hn rfl
  have h2 := hv hne
  have h3 := (val_bounds (limb_take h (tl zs))).2
  rw [val_take_tl, List.length_take, Nat.min_eq_left h1] at h3
  have h4 := pw_mono (m := tl zs) (n := zs.length - 1) (by omega)
  omega
theorem scale_canon {zs qs : List Int} {m more : Int} (hz : Canon zs) (hq : Limb qs) (hl : qs.length = zs.length) (hm : 1 ≤ m) (hmo : 0 ≤ more) (hv : val qs = val zs * m + more) : Canon qs := by
  apply canon_of_val hq
  intro hne
  have h1 := canon_low hz (by intro e; subst e; exact hne (List.eq_nil_of_length_eq_zero (by simpa using hl)))
  have h2 := (val_bounds hz.1).1
  have h3 : val zs * 1 ≤ val zs * m := Int.mul_le_mul_of_nonneg_left hm h2
  rw [hl, hv]
  omega
theorem canon_snoc {qs : List Int} {c : Int} (hq : Limb qs) (h0 : 0 < c) (h1 : c < 4294967296) : Canon (qs ++ [c]) := by
  refine ⟨limb_append.2 ⟨hq, limb_cons.2 ⟨by omega, limb_nil⟩⟩, ?_⟩
  have h2 := tl_gt (zs := qs ++ [c]) (n := qs.length) (by simp; omega)
  have h3 := tl_le (qs ++ [c])
  simp at h3 ⊢
  omega
def HasN (B : Nat) (w : World) (v : Value) (x : Int) (n : Nat) : Prop := ∃ zs, w.ownsRow B 124 1 v zs.length (zs.map (Value.int .u32)) ∧ Canon zs ∧ val zs = x ∧ zs.length = n
theorem owns_row {B g cap : Nat} {w : World} {cur : Array Value} {zs : List Int} (hB : B ≤ g) (hh : w.heap[g]? = some (.cells cur 124 (0, 0))) (h1 : zs.length ≤ cap) (h2 : cap ≤ maxLen) (hs : cur.size = cap) (ha : At cur .u32 0 zs) : w.ownsRow B 124 1 (.slice (some ⟨g, 0, none⟩) zs.length cap) zs.length (zs.map (Value.int .u32)) := by
  refine ⟨by simp, .inr ⟨g, cap, cur, rfl, hB, hh, h1, h2, by omega, ?_⟩⟩
  apply List.ext_getElem?
  intro i
  rw [List.getElem?_take, List.getElem?_map]
  by_cases hi : i < zs.length
  · have e := ha i hi
    rw [Nat.zero_add] at e
    rw [if_pos (by omega), Array.getElem?_toList, e, List.getElem?_eq_getElem hi, List.getD_eq_getElem?_getD, List.getElem?_eq_getElem hi]
    rfl
  · rw [if_neg (by omega), List.getElem?_eq_none (by omega)]
    rfl
theorem row_owns {B n : Nat} {w : World} {v : Value} {zs : List Int} (h : w.ownsRow B 124 1 v n (zs.map (Value.int .u32))) (h0 : 0 < n) : ∃ g cap cur, v = .slice (some ⟨g, 0, none⟩) n cap ∧ B ≤ g ∧ w.heap[g]? = some (.cells cur 124 (0, 0)) ∧ n ≤ cap ∧ cap ≤ maxLen ∧ cur.size = cap ∧ At cur .u32 0 zs := by
  have hn : zs.length = n := by simpa using h.1
  rcases h.2 with ⟨_, h2⟩ | ⟨g, cap, cur, rfl, hg, hh, hc1, hc2, hs, ht⟩
  · omega
  · refine ⟨g, cap, cur, rfl, hg, hh, hc1, hc2, by omega, fun i hi => ?_⟩
    have e : (cur.toList.take (n * 1))[i]? = (zs.map (Value.int .u32))[i]? := by rw [ht]
    rw [List.getElem?_take, if_pos (by omega)] at e
    rw [Nat.zero_add, ← Array.getElem?_toList, e, List.getElem?_map, List.getElem?_eq_getElem hi, List.getD_eq_getElem?_getD, List.getElem?_eq_getElem hi]
    rfl
theorem grown_has {B n : Nat} {w wr w1 : World} {v v' : Value} {qs : List Int} {c x : Int} {o : Obj} (h : w1.ownsRow B 124 1 v' (n + 1) (qs.map (Value.int .u32) ++ [.int .u32 c])) (hg : (wr.alloc o).grownBy w1 v.ownBlock) (hb : Below B w wr) (hB : B ≤ wr.heap.size) (hl : ∀ j, v.ownBlock = some j → B ≤ j ∧ j < wr.heap.size)
    (hq : qs.length = n) (hc : Canon (qs ++ [c])) (hv : val (qs ++ [c]) = x) : HasN B w1 v' x (n + 1) ∧ Below B w w1 := by
  subst hq
  refine ⟨⟨qs ++ [c], by simpa using h, hc, hv, by simp⟩, (hb.alloc hB o).grown hg (by simp; omega) (fun j hj => (hl j hj).1)⟩
set_option maxRecDepth 20000 in
set_option maxHeartbeats 1000000 in
theorem times_any (B : Nat) (w : World) (v : Value) (n : Nat) (x m more : Int) (h : HasN B w v x n) (hB : B ≤ w.heap.size) (hm : 1 ≤ m ∧ m ≤ 1000000000) (hmo : 0 ≤ more ∧ more < 4294967296) (hn : n ≤ 100000) :
    Calls Tryd.prog 84 #[v, .int .u32 m, .int .u32 more] w fun e w' => ∃ v' n', e = .returned v' ∧ HasN B w' v' (x * m + more) n' ∧ n' ≤ n + 1 ∧ Below B w w' := by
  obtain ⟨zs, hown, hc, hv, hl⟩ := h
  obtain ⟨i0, hi, hz0, hz1, hz2⟩ := info_parts info32
  by_cases h0 : 0 < n
  · subst hl
    obtain ⟨g, cap, cur, rfl, hg, hh, hc1, hc2, hcs, hat⟩ := row_owns hown h0
    unfold maxLen at hc2
    have HC := hide hc
    have HX := hide hv
    have HH := hide hh
    have HS := hide hcs
    have HA := hide hat
    clear hc hv hown hh hcs hat
    go_enter Tryd.func84, Tryd.ntmps84
    go_wp2
    go_loopw [7, 15] (fun cv i wr => ∃ (k : Nat) (c : Int) (qs : List Int) (cur' : Array Value), k ≤ zs.length ∧ cv = .int .u64 c ∧ i = .int .i64 k ∧ (0 ≤ c ∧ c < 4294967296) ∧ qs.length = k ∧ Limb qs ∧ val qs + pw k * c = vf zs k * m + more ∧ Wr w wr g cur' 124 ∧ cur'.size = cap ∧ At cur' .u32 0 (qs ++ zs.drop k)) (fun _ i _ => zs.length - (intOf i).toNat)
    case atStart => exact ⟨0, more, [], cur, Nat.zero_le _, rfl, rfl, hmo, rfl, limb_nil, by simp [val, vf, pw], Wr.refl HH.out, HS.out, by simpa using HA.out⟩
    case round =>
      obtain ⟨k, c, qs, cur', hk, rfl, rfl, hcb, hql, hq, hval, hwr, hcs, hat⟩ := hrel
      have HQL := hide hql
      have HQ := hide hq
      have HV := hide hval
      have HW := hide hwr
      have HCS := hide hcs
      have HT := hide hat
      clear hql hq hval hwr hcs hat
      by_cases hlt : k < zs.length
      · have hlen : (qs ++ zs.drop k).length = zs.length := by have := HQL.out; simp; omega
        have co := HT.out.cell HW.out.here k (by rw [hlen]; omega)
        have e1 : (qs ++ zs.drop k).getD k 0 = zs.getD k 0 := by
          rw [List.getD_eq_getElem?_getD, List.getElem?_append_right (by have := HQL.out; omega), List.getElem?_drop, List.getD_eq_getElem?_getD, HQL.out]
          congr 2
          omega
        rw [e1, Nat.zero_add] at co
        have hfree := HW.out.free k
        have bz := limb_getD HC.out.1 k
        obtain ⟨z, hz⟩ : ∃ z, zs.getD k 0 = z := ⟨_, rfl⟩
        rw [hz] at co bz
        have hzm : 0 ≤ z * m ∧ z * m ≤ 4294967295 * 1000000000 := by
          refine ⟨Int.mul_nonneg bz.1 (by omega), ?_⟩
          have h1 : z * m ≤ 4294967295 * m := Int.mul_le_mul_of_nonneg_right (by omega) (by omega)
          omega
        have HV' := hide (scale_val (m := m) HQL.out hz rfl HV.out)
        have HT' := hide (HT.out.set k ((z * m + c) % 4294967296))
        have HW' := hide (HW.out.set k (.int .u32 ((z * m + c) % 4294967296)))
        have d1 : (k : Int) < (zs.length : Int) := by omega
        clear hlen e1 hz
        go_wp2
        go_roundw
        case rel => exact ⟨k + 1, (z * m + c) / 4294967296, qs ++ [(z * m + c) % 4294967296], _, by omega, rfl, by go_num, by omega, by have := HQL.out; simp; omega, limb_append.2 ⟨HQ.out, limb_cons.2 ⟨by omega, limb_nil⟩⟩, HV'.out, HW'.out, by simpa using HCS.out, by rw [← set_snoc qs zs k _ HQL.out (by omega)]; simpa using HT'.out⟩
        case measure => simp [intOf]; omega
      · have hkn : k = zs.length := by omega
        subst hkn
        have hat2 := HT.out
        rw [List.drop_of_length_le (Nat.le_refl _), List.append_nil] at hat2
        have hown2 := owns_row (cap := cap) hg HW.out.here (by have := HQL.out; omega) (by unfold maxLen; omega) HCS.out hat2
        rw [HQL.out] at hown2
        have hbw : Below B w wr := HW.out.below hg
        have hvv := HV.out
        rw [vf_all zs _ (Nat.le_refl _), HX.out] at hvv
        have hBr : B ≤ wr.heap.size := by rw [HW.out.size]; exact hB
        have HVV := hide hvv
        clear hat2 hvv
        by_cases hc0 : c = 0
        · have HF : Hid (HasN B wr (.slice (some ⟨g, 0, none⟩) zs.length cap) (x * m + more) zs.length) := by
            have h9 := HVV.out
            rw [hc0, Int.mul_zero, Int.add_zero] at h9
            exact ⟨qs, by rw [HQL.out]; exact hown2, scale_canon HC.out HQ.out HQL.out hm.1 hmo.1 (by rw [HX.out]; exact h9), h9, HQL.out⟩
          subst hc0
          clear hown2
          go_wp2
          go_ret
          exact ⟨_, zs.length, rfl, HF.out, by omega, hbw⟩
        · have hne : (c != 0) = true := by rw [bne_iff_ne]; exact hc0
          have hcn := hide (canon_snoc HQ.out (c := c) (by omega) hcb.2)
          go_wp2_with (at_builtin; refine wpList_append_own _ rfl (.tmp 37) (.tmp 40) 22 rfl B 124 i0 (.int .u32 0) 1 4 Tryd.underlying22 hi hz0 hz1 hz2 rfl (by decide) _ _ _ rfl (hown2.alloc _) ⟨wr.heap.size, 0, none⟩ 1 1 [.int .u32 c] rfl rfl (cell_one_new _ _ _) ?d2 ?d3 ?d4 ?d5 ?_)
          case d2 => first | rfl | (intro u hu; simp at hu; subst hu; rfl)
          case d3 => unfold maxLen; omega
          case d4 => omega
          case d5 => first | omega | (simp; omega)
          intro v' w1 hown' hgrow _
          have R := grown_has (x := x * m + more) hown' hgrow hbw hBr hown2.lt HQL.out hcn.out (by rw [val_snoc, HQL.out]; exact HVV.out)
          clear hown' hgrow hown2
          go_wp2
          go_ret
          exact ⟨_, zs.length + 1, rfl, R.1, by omega, R.2⟩
  · have e0 : zs = [] := List.eq_nil_of_length_eq_zero (by omega)
    subst e0
    have hx0 : x = 0 := by rw [← hv]; rfl
    have hn0 : n = 0 := by omega
    have hv0 : v = .slice none 0 0 ∨ ∃ g cap, v = .slice (some ⟨g, 0, none⟩) 0 cap ∧ cap ≤ maxLen := by
      rcases hown.2 with ⟨e, _⟩ | ⟨g, cap, cur, e, _, _, _, h2, _⟩
      · exact .inl e
      · exact .inr ⟨g, cap, e, h2⟩
    subst hx0 hn0
    by_cases hm0 : more = 0
    · subst hm0
      have HH : Hid (HasN B w v 0 0) := ⟨[], hown, canon_nil, rfl, rfl⟩
      rcases hv0 with rfl | ⟨g, cap, rfl, hcap⟩
      · go_enter Tryd.func84, Tryd.ntmps84
        go_wp2
        refine wp_loop_rounds 1 ?_
        rw [rounds_succ]
        go_wp2
        go_ret
        exact ⟨_, 0, rfl, by simpa using HH.out, by omega, Below.refl _ _⟩
      · unfold maxLen at hcap
        clear hown
        go_enter Tryd.func84, Tryd.ntmps84
        go_wp2
        refine wp_loop_rounds 1 ?_
        rw [rounds_succ]
        go_wp2
        go_ret
        exact ⟨_, 0, rfl, by simpa using HH.out, by omega, Below.refl _ _⟩
    · have hne : (more != 0) = true := by rw [bne_iff_ne]; exact hm0
      have hcn := hide (canon_snoc (qs := []) limb_nil (c := more) (by omega) hmo.2)
      have HO := hide hown
      rcases hv0 with rfl | ⟨g, cap, rfl, hcap⟩
      · try unfold maxLen at hcap
        go_enter Tryd.func84, Tryd.ntmps84
        go_wp2
        refine wp_loop_rounds 1 ?_
        rw [rounds_succ]
        go_wp2_with (at_builtin; refine wpList_append_own _ rfl (.tmp 37) (.tmp 40) 22 rfl B 124 i0 (.int .u32 0) 1 4 Tryd.underlying22 hi hz0 hz1 hz2 rfl (by decide) _ _ _ rfl (hown.alloc _) ⟨w.heap.size, 0, none⟩ 1 1 [.int .u32 more] rfl rfl (cell_one_new _ _ _) ?e2none ?e3none ?e4none ?e5none ?_)
        case e2none => first | rfl | (intro u hu; simp at hu; subst hu; rfl)
        case e3none => unfold maxLen; simp
        case e4none => simp
        case e5none => first | omega | (simp; omega)
        intro v' w1 hown' hgrow _
        have R := grown_has (w := w) (qs := []) (x := 0 * m + more) hown' hgrow (Below.refl _ _) hB HO.out.lt rfl hcn.out (by simp [val])
        clear hown' hgrow
        go_wp2
        go_ret
        exact ⟨_, 1, rfl, R.1, by omega, R.2⟩
      · try unfold maxLen at hcap
        go_enter Tryd.func84, Tryd.ntmps84
        go_wp2
        refine wp_loop_rounds 1 ?_
        rw [rounds_succ]
        go_wp2_with (at_builtin; refine wpList_append_own _ rfl (.tmp 37) (.tmp 40) 22 rfl B 124 i0 (.int .u32 0) 1 4 Tryd.underlying22 hi hz0 hz1 hz2 rfl (by decide) _ _ _ rfl (hown.alloc _) ⟨w.heap.size, 0, none⟩ 1 1 [.int .u32 more] rfl rfl (cell_one_new _ _ _) ?e2some ?e3some ?e4some ?e5some ?_)
        case e2some => first | rfl | (intro u hu; simp at hu; subst hu; rfl)
        case e3some => unfold maxLen; simp
        case e4some => simp
        case e5some => first | omega | (simp; omega)
        intro v' w1 hown' hgrow _
        have R := grown_has (w := w) (qs := []) (x := 0 * m + more) hown' hgrow (Below.refl _ _) hB HO.out.lt rfl hcn.out (by simp [val])
        clear hown' hgrow
        go_wp2
        go_ret
        exact ⟨_, 1, rfl, R.1, by omega, R.2⟩
end Lm
end Go.Proofs.YtdiiankcjgoecaaDoor

namespace Go.Proofs.YtdiiankcjgoecaaDoor
namespace Lm
open Go.RowKit
def bytesOf (s : ByteArray) : List Int := s.data.toList.map fun c => (c.toNat : Int)
theorem bytesOf_length (s : ByteArray) : (bytesOf s).length = s.size := by simp [bytesOf]
theorem bytesOf_getD (s : ByteArray) (i : Nat) (h : i < s.size) : (bytesOf s).getD i 0 = ((s[i]'h).toNat : Int) := by
  rw [List.getD_eq_getElem?_getD, bytesOf, List.getElem?_map]
  have e : s.data.toList[i]? = some (s[i]'h) := by
    rw [Array.getElem?_toList, Array.getElem?_eq_getElem (by simpa using h)]
    rfl
  rw [e]
  rfl
theorem dval_snoc (ds : List Int) (c : Int) : dval (ds ++ [c]) = dval ds * 10 + (c - 48) := by
  induction ds with
  | nil => simp [dval, p10]
  | cons d ds ih =>
    simp only [List.cons_append, dval, ih, List.length_append, List.length_singleton, p10]
    rw [Int.add_mul, Int.mul_comm 10, ← Int.mul_assoc]
    omega
theorem dig_snoc {ds : List Int} {c : Int} (h : Dig ds) (h1 : 48 ≤ c) (h2 : c ≤ 57) : Dig (ds ++ [c]) := by
  intro y hy
  simp at hy
  rcases hy with hy | rfl
  · exact h y hy
  · exact ⟨h1, h2⟩
theorem parse_step {ds : List Int} {pos j : Nat} {x gr c : Int} (hp : pos < ds.length) (hc : ds.getD pos 0 = c) (h : dval (ds.take pos) = x * p10 j + gr) : dval (ds.take (pos + 1)) = x * p10 (j + 1) + (10 * gr + (c - 48)) := by
  rw [take_succ_getD ds pos hp, dval_snoc, h, hc, p10, Int.add_mul, ← Int.mul_assoc, Int.mul_comm x 10, Int.mul_assoc 10, Int.mul_comm 10]
  omega
def Reads (w w' : World) (ds : List Int) (e : Ending) : Prop :=
  (Dig ds ∧ ∃ v, e = .returned (.tuple #[v, .int .i64 0]) ∧ Is w.heap.size w' v (dval ds)) ∨ (¬ Dig ds ∧ e = .returned (.tuple #[.slice none 0 0, .int .i64 10]))
theorem has_is {B B' : Nat} {w : World} {v : Value} {x : Int} {n : Nat} (h : HasN B w v x n) (hB : B' ≤ B) : Is B' w v x := by
  obtain ⟨zs, h1, h2, h3, _⟩ := h
  exact ⟨zs, (ow_of_row h1 h2.1).mono hB, h2, h3⟩
theorem has_iter {B k : Nat} {w : World} {v : Value} {x : Int} {n : Nat} (h : HasN B w v x n) (hk : k < B) (s : ByteArray) (p : Nat) : HasN B (w.iterAt k s p) v x n := by
  obtain ⟨zs, h1, r⟩ := h
  exact ⟨zs, ownsRow_iterAt h1 hk s p, r⟩
set_option maxRecDepth 20000 in
set_option maxHeartbeats 2000000 in
theorem parse_some (w : World) (s : ByteArray) (h0 : 0 < s.size) (h1 : s.size ≤ 5120) :
    Calls Tryd.prog 43 #[.string s] w fun e w' => Reads w w' (bytesOf s) e ∧ Below w.heap.size w w' := by
  have hemp : s.toList.isEmpty = false := by
    rw [ByteArray.toList_eq]
    have : s.data.toList.length = s.size := by simp
    cases hl : s.data.toList with
    | nil => rw [hl] at this; simp at this; omega
    | cons _ _ => rfl
  have hsz : ¬ (5120 : Int) < (s.size : Int) := by omega
  have hK : (w.iter s 0).heap[w.heap.size]? = some (.stringIter s 0) := World.iter_heap w s 0
  have hb0 : Below w.heap.size w (w.iter s 0) := (Below.refl w.heap.size w).alloc (Nat.le_refl _) (.stringIter s 0)
  have hz0 : (w.iter s 0).heap.size = w.heap.size + 1 := World.size_alloc w (.stringIter s 0)
  have K := hide (And.intro hK (And.intro hb0 hz0))
  have HBL := hide (bytesOf_length s)
  clear hK hb0 hz0
  go_enter Tryd.func43, Tryd.ntmps43
  go_wp2
  generalize w.iter s 0 = w0 at K ⊢
  go_loopw [4, 5, 6] (fun ov gv sv wr => ∃ (pos j n : Nat) (x gr sc : Int), pos ≤ s.size ∧ j ≤ 8 ∧ n ≤ pos ∧ gv = .int .u32 gr ∧ sv = .int .u32 sc ∧ sc = p10 j ∧ (0 ≤ gr ∧ gr < p10 j) ∧ HasN (w.heap.size + 1) wr ov x n ∧ Dig ((bytesOf s).take pos) ∧ dval ((bytesOf s).take pos) = x * p10 j + gr ∧ wr.heap[w.heap.size]? = some (.stringIter s pos) ∧ Below w.heap.size w wr) (fun _ _ _ wr => s.size - wr.iterPos w.heap.size)
  case atStart => exact ⟨0, 0, 0, 0, 0, 1, by omega, by omega, by omega, rfl, rfl, rfl, by simp [p10], ⟨[], World.ownsRow_nil _ _ _ _, canon_nil, rfl, rfl⟩, by simp; exact dig_nil, by simp [dval], K.out.1, K.out.2.1⟩
  case round =>
    obtain ⟨pos, j, n, x, gr, sc, hpos, hj, hn, rfl, rfl, hsc, hgr, hhas, hdig, hval, hit, hbel⟩ := hrel
    have HSC := hide hsc
    have HGR := hide hgr
    have HH := hide hhas
    have HD := hide hdig
    have HV := hide hval
    have HI := hide hit
    have hp8 := p10_mono (m := j) (n := 8) hj
    rw [show p10 8 = 100000000 from by decide] at hp8
    have hp1 := p10_pos j
    rw [← hsc] at hp8 hp1
    have hg0 := hgr.1
    have hg1 := hgr.2
    rw [← hsc] at hg1
    have hsz1 : w.heap.size < wr.heap.size := lt_of_heap hit
    clear hsc hgr hhas hdig hval hit
    have IP : Hid (wr.iterPos w.heap.size = pos) := by show _ = _; unfold World.iterPos; rw [HI.out]
    by_cases hlt : pos < s.size
    · have hbd := bytesOf_getD s pos hlt
      by_cases hd : 48 ≤ (bytesOf s).getD pos 0 ∧ (bytesOf s).getD pos 0 ≤ 57
      · have hascii : (s[pos]'hlt).toNat < 128 := by omega
        have hnext := fun ty => Lib.run_next_ascii_at (P := Tryd.prog) wr w.heap.size s pos ty HI.out hlt hascii
        rw [← hbd] at hnext
        have HD' := hide (show Dig ((bytesOf s).take (pos + 1)) by rw [take_succ_getD _ _ (by rw [HBL.out]; exact hlt)]; exact dig_snoc HD.out hd.1 hd.2)
        have HV' := hide (parse_step (j := j) (by rw [HBL.out]; exact hlt) rfl HV.out)
        generalize (bytesOf s).getD pos 0 = c at hnext hd HV'
        have q1 := Lib.iterAt_heap wr w.heap.size s pos (pos + 1) HI.out
        have q2 := Lib.below_iterAt hbel (Nat.le_refl _) s (pos + 1)
        have q3 := has_iter HH.out (Nat.lt_succ_self _) s (pos + 1)
        have q4 := Lib.iterAt_size wr w.heap.size s (pos + 1)
        have hc1 := hd.1
        have hc2 := hd.2
        have Q := hide (And.intro q1 (And.intro q2 (And.intro q3 (show w.heap.size + 1 ≤ (wr.iterAt w.heap.size s (pos + 1)).heap.size by rw [q4]; omega))))
        clear q1 q2 q3 q4 hbd hascii hd
        generalize wr.iterAt w.heap.size s (pos + 1) = wi at Q hnext
        have d1 : decide (c < 48) = false := by simp; omega
        have d2 : decide (57 < c) = false := by simp; omega
        by_cases hj8 : j = 8
        · have hsc : sc = 100000000 := by rw [HSC.out, hj8]; decide
          have HV9 : Hid (dval ((bytesOf s).take (pos + 1)) = (x * 1000000000 + (10 * gr + (c - 48))) * p10 0 + 0) := by
            show _ = _
            rw [HV'.out, hj8, show p10 (8 + 1) = 1000000000 from by decide, show p10 0 = 1 from rfl]
            omega
          subst hsc
          go_wp2_with fail
          refine (times_any (w.heap.size + 1) wi _ n x 1000000000 (10 * gr + (c - 48)) Q.out.2.2.1 Q.out.2.2.2 (by omega) (by omega) (by omega)).mono ?_
          rintro e w2 ⟨v2, n2, rfl, h2, hn2, hb2⟩
          have H2 := hide h2
          have hit2 : w2.heap[w.heap.size]? = some (.stringIter s (pos + 1)) := by rw [hb2.block w.heap.size (by omega)]; exact Q.out.1
          have IP2 : Hid (w2.iterPos w.heap.size = pos + 1) := by show _ = _; unfold World.iterPos; rw [hit2]
          have R2 := hide (And.intro hit2 (Q.out.2.1.trans (hb2.mono (by omega))))
          clear h2 hb2 hit2
          go_wp2
          go_roundw
          case rel => exact ⟨pos + 1, 0, n2, x * 1000000000 + (10 * gr + (c - 48)), 0, 1, by omega, by omega, by omega, rfl, rfl, rfl, by simp [p10], H2.out, HD'.out, HV9.out, R2.out.1, R2.out.2⟩
          case measure => rw [IP.out, IP2.out]; omega
        · have hp7 := p10_mono (m := j) (n := 7) (by omega)
          rw [← HSC.out, show p10 7 = 10000000 from by decide] at hp7
          have hne : (sc * 10 == 1000000000) = false := beq_eq_false_iff_ne.2 (by omega)
          have HSC' : Hid (sc * 10 = p10 (j + 1)) := by show _ = _; rw [p10, ← HSC.out]; omega
          have IP2 : Hid (wi.iterPos w.heap.size = pos + 1) := by show _ = _; unfold World.iterPos; rw [Q.out.1]
          go_wp2
          go_roundw
          case rel => exact ⟨pos + 1, j + 1, n, x, 10 * gr + (c - 48), sc * 10, by omega, by omega, by omega, rfl, rfl, HSC'.out, by rw [← HSC'.out]; omega, Q.out.2.2.1, HD'.out, HV'.out, Q.out.1, Q.out.2.1⟩
          case measure => rw [IP.out, IP2.out]; omega
      · have hnd : Hid (¬ Dig (bytesOf s)) := by
          intro h9
          exact hd (dig_getD h9 (by rw [HBL.out]; exact hlt))
        have hnext := fun ty => Lib.run_next_any_at (P := Tryd.prog) wr w.heap.size s pos ty HI.out hlt
        have hru : (Utf8.decode s pos).1 < 48 ∨ 57 < (Utf8.decode s pos).1 := by
          by_cases ha : (s[pos]'hlt).toNat < 128
          · rw [decode_ascii s pos hlt ha]
            simp only
            omega
          · have := (decode_high s pos hlt (by omega)).1
            omega
        have q2 := Lib.below_iterAt hbel (Nat.le_refl _) s (pos + (Utf8.decode s pos).2)
        generalize wr.iterAt w.heap.size s (pos + (Utf8.decode s pos).2) = wi at q2 hnext
        generalize (Utf8.decode s pos).1 = c at hnext hru
        clear hbd hd
        by_cases hlow : (c : Int) < 48
        · have d1 : decide ((c : Int) < 48) = true := by simp; omega
          go_wp2
          go_ret2
          exact ⟨.inr ⟨hnd.out, rfl⟩, q2⟩
        · have d1 : decide ((c : Int) < 48) = false := by simp; omega
          have d2 : decide (57 < (c : Int)) = true := by simp; omega
          have d3 : (57 : Int) < (c : Int) := by omega
          go_wp2
          go_ret2
          exact ⟨.inr ⟨hnd.out, rfl⟩, q2⟩
    · have hpe : pos = s.size := by omega
      have hnext := fun ty => Lib.run_next_end_at (P := Tryd.prog) wr w.heap.size s pos ty HI.out hlt
      have HDf : Hid (Dig (bytesOf s)) := by have := HD.out; rwa [List.take_of_length_le (by rw [HBL.out]; omega)] at this
      have HVf : Hid (dval (bytesOf s) = x * sc + gr) := by have := HV.out; rw [List.take_of_length_le (by rw [HBL.out]; omega), ← HSC.out] at this; exact this
      go_wp2_with fail
      refine (times_any (w.heap.size + 1) wr _ n x sc gr HH.out (by omega) (by omega) (by omega) (by omega)).mono ?_
      rintro e w2 ⟨v2, n2, rfl, h2, hn2, hb2⟩
      have R : Hid (Is w.heap.size w2 v2 (dval (bytesOf s)) ∧ Below w.heap.size w w2) := ⟨by rw [HVf.out]; exact has_is h2 (by omega), hbel.trans (hb2.mono (by omega))⟩
      clear h2 hb2
      go_wp2
      go_ret2
      exact ⟨.inl ⟨HDf.out, _, rfl, R.out.1⟩, R.out.2⟩
end Lm
end Go.Proofs.YtdiiankcjgoecaaDoor

namespace Go.Proofs.YtdiiankcjgoecaaDoor
namespace Lm
open Go.RowKit
theorem strOf_bytes (t : ByteArray) : strOfNums (bytesOf t) = t := by
  apply ByteArray.ext
  apply Array.toList_inj.1
  rw [strOfNums_data, bytesOf, List.map_map]
  conv => rhs; rw [← List.map_id t.data.toList]
  apply List.map_congr_left
  intro c _
  simp
theorem bytes_strOf {ds : List Int} (h : Dig ds) : bytesOf (strOfNums ds) = ds := by
  rw [bytesOf, strOfNums_data, List.map_map]
  conv => rhs; rw [← List.map_id ds]
  apply List.map_congr_left
  intro c hc
  have := h c hc
  simp only [Function.comp_apply, id]
  have e : (UInt8.ofNat c.toNat).toNat = c.toNat := by
    simp
    omega
  rw [e]
  omega
theorem bytes_tail (t : ByteArray) : bytesOf (t.extract 1 t.size) = (bytesOf t).drop 1 := by
  have : (t.extract 1 t.size).data.toList = t.data.toList.drop 1 := by
    rw [Lib.extract_data]
    rw [List.take_of_length_le (by simp)]
  rw [bytesOf, this, bytesOf, List.map_drop]
theorem tail_val {t : ByteArray} {x : Int} (h : dval (bytesOf t) = x) (h0 : (bytesOf t).getD 0 0 = 48) : dval ((bytesOf t).drop 1) = x := by
  cases hb : bytesOf t with
  | nil => rw [hb] at h; simpa using h
  | cons c cs =>
    rw [hb] at h h0
    simp at h0
    subst h0
    rw [dval_cons48] at h
    simpa using h
theorem end_dec {ds : List Int} {x : Int} (h : Dig ds) (hv : dval ds = x) (hl : 1 ≤ ds.length) (he : ds.length = 1 ∨ ds.getD 0 0 ≠ 48) : IsDec ds x := by
  refine ⟨h, hv, ?_⟩
  cases ds with
  | nil => simp at hl
  | cons c cs =>
    by_cases hc : c = 48
    · rcases he with he | he
      · have : cs = [] := List.eq_nil_of_length_eq_zero (by simpa using he)
        subst this hc
        exact .inl ⟨by rw [← hv]; simp [dval], rfl⟩
      · simp at he
        exact absurd hc he
    · exact .inr ⟨c, cs, rfl, hc⟩
def sizeOf' : Value → Nat | .string s => s.size | _ => 0
set_option maxRecDepth 20000 in
set_option maxHeartbeats 400000 in
theorem parse_long (w : World) (s : ByteArray) (h : (5120 : Int) < (s.size : Int)) :
    Calls Tryd.prog 43 #[.string s] w fun e w' => e = .returned (.tuple #[.slice none 0 0, .int .i64 2]) ∧ Below w.heap.size w w' := by
  go_enter Tryd.func43, Tryd.ntmps43
  go_wp2
  go_ret2
  exact ⟨rfl, Below.refl _ _⟩
set_option maxRecDepth 20000 in
set_option maxHeartbeats 400000 in
theorem parse_none (w : World) (s : ByteArray) (h : s.size = 0) :
    Calls Tryd.prog 43 #[.string s] w fun e w' => e = .returned (.tuple #[.slice none 0 0, .int .i64 10]) ∧ Below w.heap.size w w' := by
  have he : s = ByteArray.empty := by
    apply ByteArray.ext
    apply Array.eq_empty_of_size_eq_zero
    simpa using h
  subst he
  go_enter Tryd.func43, Tryd.ntmps43
  go_wp2
  go_ret2
  exact ⟨rfl, Below.refl _ _⟩
end Lm
end Go.Proofs.YtdiiankcjgoecaaDoor

namespace Go.Proofs.YtdiiankcjgoecaaDoor
namespace Dm
open Go.RowKit
open Lm (bytesOf bytesOf_length bytesOf_getD strOf_bytes bytes_strOf bytes_tail tail_val end_dec sizeOf' hide lt_of_cell lt_of_heap IsDec Dig dval p10 p10_pos dig_cons dig_nil dig_drop dval_cons48 dec_step dec_bound dval_bounds isDec_one)
theorem digit_str (d : Int) (h0 : 0 ≤ d) (h1 : d < 10) : (ByteArray.mk #[48, 49, 50, 51, 52, 53, 54, 55, 56, 57]).extract d.toNat (d + 1).toNat = strOfNums [48 + d] := by
  have h : d = 0 ∨ d = 1 ∨ d = 2 ∨ d = 3 ∨ d = 4 ∨ d = 5 ∨ d = 6 ∨ d = 7 ∨ d = 8 ∨ d = 9 := by omega
  rcases h with rfl | rfl | rfl | rfl | rfl | rfl | rfl | rfl | rfl | rfl <;> rfl
theorem str_append (xs ys : List Int) : strOfNums xs ++ strOfNums ys = strOfNums (xs ++ ys) := by
  apply ByteArray.ext
  apply Array.toList_inj.1
  simp [strOfNums]
theorem pw_p10 (n : Nat) : pw n = p10 (4 * n) := by
  induction n with
  | zero => rfl
  | succ n ih =>
    rw [show 4 * (n + 1) = 4 * n + 4 by omega]
    simp only [pw, p10, ih]
    omega
theorem text_round {F T : List Int} {z V x : Int} {k : Nat} (hF : dval F = z) (_hl : F.length = 4) (hT : dval T = V) (hTl : T.length = 4 * k) (hx : x = V + pw k * z) : dval (F ++ T) = x := by
  have e : ∀ A B : List Int, dval (A ++ B) = dval A * p10 B.length + dval B := by
    intro A B
    induction A with
    | nil => simp [dval]
    | cons c cs ih =>
      simp only [List.cons_append, dval, ih, List.length_append, Lm.p10_add, Int.add_mul, Int.mul_assoc]
      omega
  rw [e, hF, hT, hTl, hx, pw_p10, Int.mul_comm z]
  omega
theorem four_step {F : List Int} {u z : Int} (h : dval F + p10 F.length * u = z) : dval ((48 + u % 10) :: F) + p10 ((48 + u % 10) :: F).length * (u / 10) = z := by
  have := dec_step (T := F) (v := u) (R := 0) (x := z) (j := 0) (by rw [Int.mul_zero, Int.add_zero]; exact h)
  rwa [Int.mul_zero, Int.add_zero] at this
set_option maxRecDepth 20000 in
set_option maxHeartbeats 2000000 in
theorem rtext_pos (w : World) (ao : Option Addr) (cap : Nat) (D : List Int) (x : Int) (hD : Got w ao cap D x) (hl : D.length ≤ 100000) (h0 : 0 < D.length) :
    Calls Tryd.prog 49 #[.agg #[.bool false, .slice ao D.length cap]] w fun e w' => ∃ ds, e = .returned (.string (strOfNums ds)) ∧ IsDec ds x ∧ Below w.heap.size w w' := by
  obtain ⟨_, h1, h2, h3⟩ := hD.sl.parts
  have hb0 : Below w.heap.size w (w.alloc (.cells #[.bool false, .slice ao D.length cap] 77)) := (Below.refl _ _).alloc (Nat.le_refl _) _
  have sD := hD.sl.below hb0
  obtain ⟨b, off, rfl, hc⟩ := sD.cells h0
  have hne : (((D.length : Nat) : Int) == 0) = false := beq_eq_false_iff_ne.2 (by omega)
  have H3 := hide h3
  have HV := hide hD.val
  have HC := hide hc
  have hxp : Hid (0 < x) := by
    have := val_pos_tl hD.canon.1 (by rw [hD.canon.2]; exact h0)
    rwa [hD.val] at this
  clear h3 hD sD hc
  go_enter Tryd.func49, Tryd.ntmps49
  go_wp2
  go_loop [3, 4] (fun sv iv => ∃ (k : Nat) (T : List Int), k ≤ D.length ∧ iv = .int .i64 k ∧ sv = .string (strOfNums T) ∧ Dig T ∧ T.length = 4 * k ∧ dval T = val (D.take k)) (fun _ iv => D.length - (intOf iv).toNat)
  case atStart => exact ⟨0, [], Nat.zero_le _, rfl, rfl, dig_nil, rfl, by simp [dval, val]⟩
  case round =>
    obtain ⟨k, T, hk, rfl, rfl, hT, hTl, hTv⟩ := hrel
    have HT := hide hT
    have HTL := hide hTl
    have HTV := hide hTv
    clear hT hTl hTv
    by_cases hlt : k < D.length
    · have ck := HC.out k hlt
      have bz := limb_getD H3.out k
      have Hz := hide (take_succ_getD D k hlt)
      generalize D.getD k 0 = z at ck bz Hz
      have d1 : (k : Int) < (D.length : Int) := by omega
      go_wp2
      go_loop [5, 6, 7] (fun vv fv jv => ∃ (j : Nat) (u : Int) (F : List Int), j ≤ 4 ∧ jv = .int .i64 j ∧ vv = .int .i64 u ∧ fv = .string (strOfNums F) ∧ 0 ≤ u ∧ u < p10 (4 - j) ∧ Dig F ∧ F.length = j ∧ dval F + p10 F.length * u = z) (fun _ _ jv => 4 - (intOf jv).toNat)
      case atStart => exact ⟨0, z, [], by omega, rfl, rfl, rfl, bz.1, by rw [show p10 (4 - 0) = 10000 from by decide]; exact bz.2, dig_nil, rfl, by simp [dval, p10]⟩
      case round =>
        obtain ⟨j, u, F, hj, rfl, rfl, rfl, hu0, hu1, hF, hFl, hFv⟩ := hrel
        have HU := hide hu1
        have HF := hide hF
        have HFL := hide hFl
        have HFV := hide hFv
        clear hu1 hF hFl hFv
        by_cases hj4 : j < 4
        · have e1 := digit_str (u % 10) (by omega) (by omega)
          have hu2 : u < 10000 := by
            have h8 := HU.out
            have h9 := Lm.p10_mono (m := 4 - j) (n := 4) (by omega)
            rw [show p10 4 = 10000 from by decide] at h9
            omega
          have hus : (strOfNums F).size ≤ 4 := by rw [strOfNums_size, HFL.out]; omega
          have hus1 : (strOfNums [48 + u % 10]).size ≤ 1 := by rw [strOfNums_size]; simp
          have HFV' := hide (four_step HFV.out)
          have HU' : Hid (0 ≤ u / 10 ∧ u / 10 < p10 (4 - (j + 1))) := by
            obtain ⟨i, hi⟩ : ∃ i, 4 - j = i + 1 := ⟨3 - j, by omega⟩
            have h9 := HU.out
            rw [hi] at h9
            have h10 := dec_bound hu0 h9
            rw [show 4 - (j + 1) = i by omega]
            exact h10
          have HS : Hid (strOfNums [48 + u % 10] ++ strOfNums F = strOfNums ((48 + u % 10) :: F)) := str_append _ _
          go_wp2
          go_round
          case rel => exact ⟨j + 1, u / 10, (48 + u % 10) :: F, by omega, by go_num, rfl, by rw [← HS.out], HU'.out.1, HU'.out.2, dig_cons.2 ⟨by omega, HF.out⟩, by have := HFL.out; simp; omega, HFV'.out⟩
          case measure => simp [intOf]; omega
        · have hj' : j = 4 := by omega
          have hu : u = 0 := by have := HU.out; rw [hj', show p10 (4 - 4) = 1 from by decide] at this; omega
          have hFz : Hid (dval F = z) := by have := HFV.out; rw [hu, Int.mul_zero, Int.add_zero] at this; exact this
          have hFl4 : Hid (F.length = 4) := by have := HFL.out; rw [hj'] at this; exact this
          have HR : Hid (dval (F ++ T) = val (D.take (k + 1))) := by
            refine text_round hFz.out hFl4.out HTV.out HTL.out ?_
            rw [Hz.out, val_snoc, List.length_take, Nat.min_eq_left (by omega)]
          have hus : (strOfNums F).size ≤ 4 := by rw [strOfNums_size, hFl4.out]; omega
          have hus2 : (strOfNums T).size ≤ 400000 := by rw [strOfNums_size, HTL.out]; omega
          have HS : Hid (strOfNums F ++ strOfNums T = strOfNums (F ++ T)) := str_append _ _
          have HDg : Hid (Dig (F ++ T)) := by
            intro c hc
            rcases List.mem_append.1 hc with h | h
            · exact HF.out c h
            · exact HT.out c h
          clear hj' hu
          go_wp2
          go_round
          case rel => exact ⟨k + 1, F ++ T, by omega, by go_num, by rw [← HS.out], HDg.out, by rw [List.length_append, hFl4.out, HTL.out]; omega, HR.out⟩
          case measure => simp [intOf]; omega
    · have hkn : k = D.length := by omega
      have HX : Hid (dval T = x) := by have := HTV.out; rwa [hkn, List.take_of_length_le (Nat.le_refl _), HV.out] at this
      have hTl1 : Hid (1 ≤ T.length) := by have := HTL.out; show _ ≤ _; omega
      have d1 : ¬ (k : Int) < (D.length : Int) := by omega
      clear hkn
      go_wp2
      go_loop [3] (fun sv => ∃ t : ByteArray, sv = .string t ∧ 1 ≤ t.size ∧ Dig (bytesOf t) ∧ dval (bytesOf t) = x) (fun sv => sizeOf' sv)
      case atStart => exact ⟨strOfNums T, rfl, by rw [strOfNums_size]; exact hTl1.out, by rw [bytes_strOf HT.out]; exact HT.out, by rw [bytes_strOf HT.out]; exact HX.out⟩
      case round =>
        obtain ⟨t, rfl, ht1, htd, htv⟩ := hrel
        have HTD := hide htd
        have HTv := hide htv
        clear htd htv
        by_cases h1t : 1 < t.size
        · have hp : 0 < t.size := by omega
          have hgd := bytesOf_getD t 0 hp
          have h1i : (1 : Int) < (t.size : Int) := by omega
          by_cases hz : ((t[0]'hp).toNat : Int) = 48
          · have hzb : (((t[0]'hp).toNat : Int) == 48) = true := beq_iff_eq.2 hz
            have hes : (t.extract 1 t.size).size = t.size - 1 := by rw [← bytesOf_length, bytes_tail, List.length_drop, bytesOf_length]
            have R : Hid (1 ≤ (t.extract 1 t.size).size ∧ Dig (bytesOf (t.extract 1 t.size)) ∧ dval (bytesOf (t.extract 1 t.size)) = x) :=
              ⟨by omega, by rw [bytes_tail]; exact dig_drop HTD.out 1, by rw [bytes_tail]; exact tail_val HTv.out (by rw [hgd, hz])⟩
            have HES := hide hes
            clear hes hz hgd
            go_wp2
            go_round
            case rel => exact ⟨_, rfl, R.out⟩
            case measure => simp only [sizeOf', HES.out]; omega
          · have hzb : (((t[0]'hp).toNat : Int) == 48) = false := beq_eq_false_iff_ne.2 hz
            have HF := hide (end_dec HTD.out HTv.out (by rw [bytesOf_length]; omega) (.inr (by rw [hgd]; exact hz)))
            clear hz hgd
            go_wp2
            go_ret
            exact ⟨bytesOf t, by rw [strOf_bytes]; rfl, HF.out, hb0⟩
        · have h1i : ¬ (1 : Int) < (t.size : Int) := by omega
          have HF := hide (end_dec HTD.out HTv.out (by rw [bytesOf_length]; omega) (.inl (by rw [bytesOf_length]; omega)))
          go_wp2
          go_ret
          exact ⟨bytesOf t, by rw [strOf_bytes]; rfl, HF.out, hb0⟩
set_option maxRecDepth 20000 in
set_option maxHeartbeats 400000 in
theorem rtext_zero (w : World) (ao : Option Addr) (cap : Nat) :
    Calls Tryd.prog 49 #[.agg #[.bool false, .slice ao 0 cap]] w fun e w' => ∃ ds, e = .returned (.string (strOfNums ds)) ∧ IsDec ds 0 ∧ Below w.heap.size w w' := by
  go_enter Tryd.func49, Tryd.ntmps49
  go_wp2
  go_ret
  exact ⟨[48], rfl, ⟨dig_cons.2 ⟨by omega, dig_nil⟩, by simp [dval], .inl ⟨rfl, rfl⟩⟩, (Below.refl _ _).alloc (Nat.le_refl _) _⟩
end Dm
end Go.Proofs.YtdiiankcjgoecaaDoor

namespace Go.Proofs.YtdiiankcjgoecaaDoor
namespace Dm
open Go.RowKit
open Lm (bytesOf bytesOf_length bytesOf_getD hide lt_of_cell lt_of_heap IsDec Dig dval p10 p10_pos dig_getD dig_drop)
theorem digits_step {ds Dd : List Int} {k j : Nat} {c v : Int} (hk : k < ds.length) (hc : ds.getD k 0 = c) (hl : (ds.drop (k + 1)).length = 4 * Dd.length + j) (h : dval (ds.drop (k + 1)) = val Dd + pw Dd.length * v) : dval (ds.drop k) = val Dd + pw Dd.length * (v + p10 j * (c - 48)) ∧ (ds.drop k).length = 4 * Dd.length + (j + 1) := by
  rw [Lm.drop_getD ds k hk, hc]
  simp only [dval, List.length_cons]
  rw [h, hl, Lm.p10_add, ← pw_p10]
  refine ⟨?_, by omega⟩
  rw [Int.mul_add, ← Int.mul_assoc (pw Dd.length), Int.mul_comm (c - 48)]
  omega
theorem digits_four {Dd : List Int} {v x : Int} (h : x = val Dd + pw Dd.length * v) : x = val (Dd ++ [v]) + pw (Dd ++ [v]).length * 0 := by
  rw [val_snoc, Int.mul_zero, Int.add_zero, h]
theorem step_own64 {B : Nat} {w wr w1 : World} {v v' : Value} {k : Nat} {ds : List Int} {z : Int} {o : Obj} (h : w1.ownsRow B 3 1 v' (k + 1) (ds.map (Value.int .i64) ++ [.int .i64 z])) (hg : (wr.alloc o).grownBy w1 v.ownBlock) (hb : Below B w wr) (hB : B ≤ wr.heap.size) (hl : ∀ j, v.ownBlock = some j → B ≤ j ∧ j < wr.heap.size) (hk : ds.length = k) :
    w1.ownsRow B 3 1 v' (ds ++ [z]).length ((ds ++ [z]).map (Value.int .i64)) ∧ Below B w w1 := by
  subst hk
  refine ⟨by simpa using h, ((hb.alloc hB o).grown hg ?_ (fun j hj => (hl j hj).1))⟩
  simp
  omega
theorem times_ten {ten d : Int} (h : 1 ≤ ten) (h0 : 0 ≤ d) (h1 : d ≤ 9) : 0 ≤ ten * d ∧ ten * d ≤ 9 * ten := by
  refine ⟨Int.mul_nonneg (by omega) h0, ?_⟩
  have : ten * d ≤ ten * 9 := Int.mul_le_mul_of_nonneg_left h1 (by omega)
  omega
set_option maxRecDepth 20000 in
set_option maxHeartbeats 2000000 in
theorem digits_any (w : World) (s : ByteArray) (hd : Dig (bytesOf s)) (h1 : s.size ≤ 5120) :
    Calls Tryd.prog 95 #[.string s] w fun e w' => ∃ ao' cap' D, e = .returned (.agg #[.bool false, .slice ao' D.length cap']) ∧ Got w' ao' cap' D (dval (bytesOf s)) ∧ D.length ≤ 6000 ∧ Below w.heap.size w w' := by
  have c0 : (w.alloc (.cells #[.bool false, .slice none 0 0] 77)).cell? ⟨w.heap.size, 0, none⟩ = some (.bool false) := by
    rw [cell_of_row _ _ _ _ _ (0, 0) (heap_alloc_new w _)]; rfl
  have c1 : (w.alloc (.cells #[.bool false, .slice none 0 0] 77)).cell? ⟨w.heap.size, 1, none⟩ = some (.slice none 0 0) := by
    rw [cell_of_row _ _ _ _ _ (0, 0) (heap_alloc_new w _)]; rfl
  have f0 : (w.alloc (.cells #[.bool false, .slice none 0 0] 77)).frozen? ⟨w.heap.size, 0, none⟩ = false := frozen_of_row _ _ _ _ _ (heap_alloc_new w _)
  have f1 : (w.alloc (.cells #[.bool false, .slice none 0 0] 77)).frozen? ⟨w.heap.size, 1, none⟩ = false := frozen_of_row _ _ _ _ _ (heap_alloc_new w _)
  have hb0 : Below w.heap.size w (w.alloc (.cells #[.bool false, .slice none 0 0] 77)) := (Below.refl _ _).alloc (Nat.le_refl _) _
  have hs0 : (w.alloc (.cells #[.bool false, .slice none 0 0] 77)).heap.size = w.heap.size + 1 := by simp
  have C := hide (And.intro c0 (And.intro c1 (And.intro f0 (And.intro f1 (And.intro hb0 hs0)))))
  obtain ⟨i0, hi, hz0, hz1, hz2⟩ := info_parts info64
  have HD := hide hd
  have HBL := hide (bytesOf_length s)
  clear c0 c1 f0 f1 hb0 hs0 hd
  go_enter Tryd.func95, Tryd.ntmps95
  go_wp2
  generalize w.alloc (.cells #[.bool false, .slice none 0 0] 77) = w0 at C ⊢
  go_loopw [3, 4, 5, 6] (fun dv vv tv iv wr => ∃ (k j : Nat) (v ten : Int) (Dd : List Int), k ≤ s.size ∧ j ≤ 3 ∧ iv = .int .i64 ((k : Int) - 1) ∧ vv = .int .i64 v ∧ tv = .int .i64 ten ∧ ten = p10 j ∧ (0 ≤ v ∧ v < p10 j) ∧ Limb Dd ∧ ((bytesOf s).drop k).length = 4 * Dd.length + j ∧ dval ((bytesOf s).drop k) = val Dd + pw Dd.length * v ∧ wr.ownsRow (w.heap.size + 1) 3 1 dv Dd.length (Dd.map (Value.int .i64)) ∧ Below (w.heap.size + 1) w0 wr) (fun _ _ _ iv _ => (intOf iv + 1).toNat)
  case atStart => exact ⟨s.size, 0, 0, 1, [], Nat.le_refl _, by omega, rfl, rfl, rfl, rfl, by simp [p10], limb_nil, by rw [List.drop_of_length_le (by rw [HBL.out]; exact Nat.le_refl _)]; rfl, by rw [List.drop_of_length_le (by rw [HBL.out]; exact Nat.le_refl _)]; simp [dval, val], World.ownsRow_nil _ _ _ _, Below.refl _ _⟩
  case round =>
    obtain ⟨k, j, v, ten, Dd, hk, hj, rfl, rfl, rfl, hten, hv, hDd, hlen, hval, hown, hbel⟩ := hrel
    have HTEN := hide hten
    have HVB := hide hv
    have HDd := hide hDd
    have HLEN := hide hlen
    have HVAL := hide hval
    have hp3 := Lm.p10_mono (m := j) (n := 3) hj
    rw [← hten, show p10 3 = 1000 from by decide] at hp3
    have hp1 := p10_pos j
    rw [← hten] at hp1
    have hv0 := hv.1
    have hv1 := hv.2
    rw [← hten] at hv1
    have hDl : Dd.length ≤ 5120 := by have := hlen; rw [List.length_drop, HBL.out] at this; omega
    have hsz := hbel.size
    have hsz0 := C.out.2.2.2.2.2
    rw [hsz0] at hsz
    clear hten hv hDd hlen hval
    cases k with
    | zero =>
      have hv2 : v < 10000 := by omega
      go_wp2_with (at_builtin; refine wpList_append_own _ rfl (.tmp 31) (.tmp 33) 75 rfl (w.heap.size + 1) 3 i0 (.int .i64 0) 1 8 Tryd.underlying75 hi hz0 hz1 hz2 rfl (by decide) _ _ _ rfl (hown.alloc _) ⟨wr.heap.size, 0, none⟩ 1 1 [.int .i64 v] rfl rfl (cell_one_new _ _ _) ?d2 ?d3 ?d4 ?d5 ?_)
      case d2 => first | rfl | (intro u hu; simp at hu; subst hu; rfl)
      case d3 => unfold maxLen; omega
      case d4 => omega
      case d5 => first | omega | (simp; omega)
      intro v' w1 hown' hgrow _
      have R := step_own64 hown' hgrow hbel hsz hown.lt rfl
      have HL9 : Limb (Dd ++ [v]) := limb_append.2 ⟨HDd.out, limb_cons.2 ⟨by omega, limb_nil⟩⟩
      have how := ow_of_row R.1 HL9
      obtain ⟨aq, cq, rfl, sq, _, _⟩ := how.open
      have hval9 : val (Dd ++ [v]) = dval (bytesOf s) := by
        have := HVAL.out
        rw [List.drop_zero] at this
        rw [val_snoc, this]
      have hB := R.2
      have hAl : Hid ((Dd ++ [v]).length ≤ 5121) := by rw [List.length_append, List.length_singleton]; show _ ≤ _; omega
      generalize Dd ++ [v] = A at sq hval9 HL9 hAl
      have HA := hide (And.intro hval9 HL9)
      clear hown' hgrow hown R how hval9 HL9
      go_wp2_with fail
      refine (made_any w1 false aq A.length cq A sq).mono ?_
      rintro e w2 ⟨rfl, hb2⟩
      replace hB := hB.trans (hb2.mono (by have := hB.size; omega))
      have hlt : w.heap.size < w.heap.size + 1 := Nat.lt_succ_self _
      have d0 := (hB.cell (p := ⟨w.heap.size, 0, none⟩) hlt).trans C.out.1
      have d1 := (hB.cell (p := ⟨w.heap.size, 1, none⟩) hlt).trans C.out.2.1
      have g0 := (hB.frozen (p := ⟨w.heap.size, 0, none⟩) hlt).trans C.out.2.2.1
      have g1 := (hB.frozen (p := ⟨w.heap.size, 1, none⟩) hlt).trans C.out.2.2.2.1
      have hBw : Below w.heap.size w w2 := C.out.2.2.2.2.1.trans (hB.mono (by omega))
      have sD := (sq.below hb2).cut
      have hD9 : Hid (Canon (A.take (tl A)) ∧ val (A.take (tl A)) = dval (bytesOf s)) := ⟨canon_trim HA.out.2, by rw [val_take_tl, HA.out.1]⟩
      have hDl9 : Hid ((A.take (tl A)).length = tl A) := by show _ = _; rw [List.length_take]; have := tl_le A; omega
      have hDb : Hid ((A.take (tl A)).length ≤ 6000) := by show _ ≤ _; rw [List.length_take]; have := hAl.out; omega
      replace sD : Sl w2 (.slice aq (A.take (tl A)).length cq) (A.take (tl A)) := by rw [hDl9.out]; exact sD
      rw [← hDl9.out]
      generalize A.take (tl A) = D at sD hD9 hDb ⊢
      have e0 : Below w.heap.size w ((w2.setCell ⟨w.heap.size, 0, none⟩ (.bool false)).setCell ⟨w.heap.size, 1, none⟩ (.slice aq D.length cq)) := (hBw.setCell (Nat.le_refl _) _).setCell (Nat.le_refl _) _
      have e1 : (w2.setCell ⟨w.heap.size, 0, none⟩ (.bool false)).cell? ⟨w.heap.size, 1, none⟩ = some (.slice none 0 0) := by
        rw [World.cell?_setCell_other _ _ _ _ (by simp)]; exact d1
      have e2 := hide ((sD.setCell d0 (fun z => by simp) (.bool false)).setCell e1 (fun z => by simp) (.slice aq D.length cq))
      have y0 := World.cell?_setCell_same _ _ (.bool false) d0
      have x1 := World.cell?_setCell_same _ _ (.slice aq D.length cq) e1
      have X := hide (And.intro y0 x1)
      clear e1 y0 x1 sD
      go_wp2
      refine bodyPost_ret (v := .agg #[.bool false, .slice aq D.length cq]) ?_ rfl ⟨aq, cq, D, rfl, ⟨e2.out, hD9.out⟩, hDb.out, e0⟩
      simp [results, Tryd.results95, go_sem, X.out.1, X.out.2]
    | succ k =>
      have hks : k < s.size := by omega
      have hbd := bytesOf_getD s k hks
      have hdg := dig_getD HD.out (i := k) (by rw [HBL.out]; exact hks)
      have ST := hide (digits_step (by rw [HBL.out]; exact hks) rfl HLEN.out HVAL.out)
      rw [hbd] at hdg ST
      have hki : (k : Int) < (s.size : Int) := by omega
      have hmul : 0 ≤ ten * ((s[k]'hks).toNat - 48 : Int) ∧ ten * ((s[k]'hks).toNat - 48 : Int) ≤ 9000 := by
        refine ⟨Int.mul_nonneg (by omega) (by omega), ?_⟩
        have h8 : ten * ((s[k]'hks).toNat - 48 : Int) ≤ 1000 * ((s[k]'hks).toNat - 48 : Int) := Int.mul_le_mul_of_nonneg_right hp3 (by omega)
        omega
      by_cases hj3 : j = 3
      · have ht3 : ten = 1000 := by rw [HTEN.out, hj3]; decide
        subst ht3
        go_wp2_with (at_builtin; refine wpList_append_own _ rfl (.tmp 27) (.tmp 29) 75 rfl (w.heap.size + 1) 3 i0 (.int .i64 0) 1 8 Tryd.underlying75 hi hz0 hz1 hz2 rfl (by decide) _ _ _ rfl (hown.alloc _) ⟨wr.heap.size, 0, none⟩ 1 1 [.int .i64 (v + 1000 * ((s[k]'hks).toNat - 48 : Int))] rfl rfl (cell_one_new _ _ _) ?c2 ?c3 ?c4 ?c5 ?_)
        case c2 => first | rfl | (intro u hu; simp at hu; subst hu; rfl)
        case c3 => unfold maxLen; omega
        case c4 => omega
        case c5 => first | omega | (simp; omega)
        intro v' w1 hown' hgrow _
        have R := step_own64 hown' hgrow hbel hsz hown.lt rfl
        have HL9 : Hid (Limb (Dd ++ [v + 1000 * ((s[k]'hks).toNat - 48 : Int)])) := limb_append.2 ⟨HDd.out, limb_cons.2 ⟨by omega, limb_nil⟩⟩
        subst hj3
        have S2 := ST.out
        rw [show p10 3 = 1000 from by decide] at S2
        have HV9 := hide (digits_four S2.1)
        have HN9 : Hid (((bytesOf s).drop k).length = 4 * (Dd ++ [v + 1000 * ((s[k]'hks).toNat - 48 : Int)]).length + 0) := by
          show _ = _
          rw [S2.2, List.length_append, List.length_singleton]
          omega
        clear hown' hgrow hown S2
        go_wp2
        go_roundw
        case rel => exact ⟨k, 0, 0, 1, Dd ++ [v + 1000 * ((s[k]'hks).toNat - 48 : Int)], by omega, by omega, rfl, rfl, rfl, rfl, by simp [p10], HL9.out, HN9.out, HV9.out, R.1, R.2⟩
        case measure => simp [intOf]
      · have hp2 := Lm.p10_mono (m := j) (n := 2) (by omega)
        rw [← HTEN.out, show p10 2 = 100 from by decide] at hp2
        have hne : (10 * ten == 10000) = false := beq_eq_false_iff_ne.2 (by omega)
        have htd := times_ten hp1 (show 0 ≤ ((s[k]'hks).toNat - 48 : Int) by omega) (by omega)
        have HT10 : Hid (10 * ten = p10 (j + 1)) := by show _ = _; rw [p10, ← HTEN.out]
        have S2 := ST.out
        rw [← HTEN.out] at S2
        have HS2 := hide S2
        clear S2
        go_wp2
        go_roundw
        case rel => exact ⟨k, j + 1, v + ten * ((s[k]'hks).toNat - 48 : Int), 10 * ten, Dd, by omega, by omega, rfl, rfl, rfl, HT10.out, by rw [← HT10.out]; omega, HDd.out, HS2.out.2, HS2.out.1, hown, hbel⟩
        case measure => simp [intOf]
end Dm
end Go.Proofs.YtdiiankcjgoecaaDoor

namespace Go.Proofs.YtdiiankcjgoecaaDoor
namespace Dm
open Go.RowKit
open Lm (bytesOf bytesOf_length bytesOf_getD hide lt_of_cell lt_of_heap IsDec Dig dval p10 p10_pos dig_getD dig_drop dig_snoc dig_nil)
def Err (s : ByteArray) (k : Int) : Prop := (k = 2 ∧ 5120 < s.size) ∨ (k = 10 ∧ s.size ≤ 5120 ∧ ¬ (1 ≤ s.size ∧ Dig (bytesOf s)))
def Fine (s : ByteArray) : Prop := 1 ≤ s.size ∧ s.size ≤ 5120 ∧ Dig (bytesOf s)
theorem err_fine {s : ByteArray} {k : Int} (h : Err s k) (h' : Fine s) : False := by
  rcases h with ⟨h1, h2⟩ | ⟨h1, h2, h3⟩
  · have := h'.2.1; omega
  · exact h3 ⟨h'.1, h'.2.2⟩
theorem got_none (w : World) : Got w none 0 [] 0 := ⟨⟨none, 0, rfl, Nat.le_refl _, by simp [maxLen], limb_nil, .inl rfl⟩, canon_nil, rfl⟩
def NatAns (w w' : World) (s : ByteArray) (e : Ending) : Prop :=
  ∃ k ao cap D x, e = .returned (.tuple #[.agg #[.bool false, .slice ao D.length cap], .int .i64 k]) ∧ Got w' ao cap D x ∧ D.length ≤ 6000 ∧ ((Err s k ∧ x = 0) ∨ (Fine s ∧ k = 0 ∧ x = dval (bytesOf s))) ∧ Below w.heap.size w w'
set_option maxRecDepth 20000 in
set_option maxHeartbeats 400000 in
theorem natural_long (w : World) (s : ByteArray) (h : (5120 : Int) < (s.size : Int)) : Calls Tryd.prog 61 #[.string s] w fun e w' => NatAns w w' s e := by
  have HE : Hid (Err s 2) := .inl ⟨rfl, by omega⟩
  go_enter Tryd.func61, Tryd.ntmps61
  go_wp2
  refine bodyPost_ret (v := .tuple #[.agg #[.bool false, .slice none 0 0], .int .i64 2]) (by simp [results, Tryd.results61, go_sem]) rfl ⟨2, none, 0, [], 0, rfl, got_none _, by simp, .inl ⟨HE.out, rfl⟩, (Below.refl _ _).alloc (Nat.le_refl _) _⟩
set_option maxRecDepth 20000 in
set_option maxHeartbeats 1000000 in
theorem natural_short (w : World) (s : ByteArray) (h : ¬ (5120 : Int) < (s.size : Int)) : Calls Tryd.prog 61 #[.string s] w fun e w' => NatAns w w' s e := by
  have HBL := hide (bytesOf_length s)
  go_enter Tryd.func61, Tryd.ntmps61
  go_wp2
  go_loop [4] (fun iv => ∃ k : Nat, k ≤ s.size ∧ iv = .int .i64 k ∧ Dig ((bytesOf s).take k)) (fun iv => s.size - (intOf iv).toNat)
  case atStart => exact ⟨0, Nat.zero_le _, rfl, by simp; exact dig_nil⟩
  case round =>
    obtain ⟨k, hk, rfl, hd⟩ := hrel
    have HD := hide hd
    clear hd
    by_cases hlt : k < s.size
    · have hbd := bytesOf_getD s k hlt
      have hki : (k : Int) < (s.size : Int) := by omega
      by_cases hdg : 48 ≤ ((s[k]'hlt).toNat : Int) ∧ ((s[k]'hlt).toNat : Int) ≤ 57
      · have HD' := hide (show Dig ((bytesOf s).take (k + 1)) by rw [Lm.take_succ_getD _ _ (by rw [HBL.out]; exact hlt), hbd]; exact dig_snoc HD.out hdg.1 hdg.2)
        have d1 : decide (((s[k]'hlt).toNat : Int) < 48) = false := by simp; omega
        have d2 : decide (57 < ((s[k]'hlt).toNat : Int)) = false := by simp; omega
        have d3 := hdg.1
        have d4 := hdg.2
        clear hdg hbd
        go_wp2
        go_round
        case rel => exact ⟨k + 1, by omega, by go_num, HD'.out⟩
        case measure => simp [intOf]; omega
      · have HE : Hid (Err s 10) := by
          refine .inr ⟨rfl, by omega, fun hx => hdg ?_⟩
          have := dig_getD hx.2 (i := k) (by rw [HBL.out]; exact hlt)
          rwa [hbd] at this
        by_cases hlow : ((s[k]'hlt).toNat : Int) < 48
        · have d1 : decide (((s[k]'hlt).toNat : Int) < 48) = true := by simp; omega
          clear hdg hbd
          go_wp2
          refine bodyPost_ret (v := .tuple #[.agg #[.bool false, .slice none 0 0], .int .i64 10]) (by simp [results, Tryd.results61, go_sem]) rfl ⟨10, none, 0, [], 0, rfl, got_none _, by simp, .inl ⟨HE.out, rfl⟩, (Below.refl _ _).alloc (Nat.le_refl _) _⟩
        · have d1 : decide (((s[k]'hlt).toNat : Int) < 48) = false := by simp; omega
          have d2 : decide (57 < ((s[k]'hlt).toNat : Int)) = true := by simp; omega
          have d3 : 57 < ((s[k]'hlt).toNat : Int) := by omega
          clear hdg hbd
          go_wp2
          refine bodyPost_ret (v := .tuple #[.agg #[.bool false, .slice none 0 0], .int .i64 10]) (by simp [results, Tryd.results61, go_sem]) rfl ⟨10, none, 0, [], 0, rfl, got_none _, by simp, .inl ⟨HE.out, rfl⟩, (Below.refl _ _).alloc (Nat.le_refl _) _⟩
    · have hdd : Dig (bytesOf s) := by have := HD.out; rwa [List.take_of_length_le (by rw [HBL.out]; omega)] at this
      have hki : ¬ (k : Int) < (s.size : Int) := by omega
      by_cases h0 : s.size = 0
      · have HE : Hid (Err s 10) := .inr ⟨rfl, by omega, fun hx => by omega⟩
        have hz : (((s.size : Nat) : Int) == 0) = true := by simp [h0]
        clear hdd h0
        go_wp2
        refine bodyPost_ret (v := .tuple #[.agg #[.bool false, .slice none 0 0], .int .i64 10]) (by simp [results, Tryd.results61, go_sem]) rfl ⟨10, none, 0, [], 0, rfl, got_none _, by simp, .inl ⟨HE.out, rfl⟩, (Below.refl _ _).alloc (Nat.le_refl _) _⟩
      · have HF : Hid (Fine s) := ⟨by omega, by omega, hdd⟩
        have hz : (((s.size : Nat) : Int) == 0) = false := beq_eq_false_iff_ne.2 (by omega)
        have c0 : (w.alloc (.cells #[.bool false, .slice none 0 0] 77)).cell? ⟨w.heap.size, 0, none⟩ = some (.bool false) := by
          rw [cell_of_row _ _ _ _ _ (0, 0) (heap_alloc_new w _)]; rfl
        have c1 : (w.alloc (.cells #[.bool false, .slice none 0 0] 77)).cell? ⟨w.heap.size, 1, none⟩ = some (.slice none 0 0) := by
          rw [cell_of_row _ _ _ _ _ (0, 0) (heap_alloc_new w _)]; rfl
        have f0 : (w.alloc (.cells #[.bool false, .slice none 0 0] 77)).frozen? ⟨w.heap.size, 0, none⟩ = false := frozen_of_row _ _ _ _ _ (heap_alloc_new w _)
        have f1 : (w.alloc (.cells #[.bool false, .slice none 0 0] 77)).frozen? ⟨w.heap.size, 1, none⟩ = false := frozen_of_row _ _ _ _ _ (heap_alloc_new w _)
        have hb0 : Below w.heap.size w (w.alloc (.cells #[.bool false, .slice none 0 0] 77)) := (Below.refl _ _).alloc (Nat.le_refl _) _
        have hs0 : w.heap.size < (w.alloc (.cells #[.bool false, .slice none 0 0] 77)).heap.size := by simp
        have C := hide (And.intro c0 (And.intro c1 (And.intro f0 (And.intro f1 (And.intro hb0 hs0)))))
        have kd := hide (digits_any (w.alloc (.cells #[.bool false, .slice none 0 0] 77)) s hdd (by omega))
        clear c0 c1 f0 f1 hb0 hs0 hdd h0
        go_wp2_with fail
        refine (kd.out).mono ?_
        rintro e w2 ⟨aq, cq, D, rfl, hg, hDb, hB⟩
        have d0 := (hB.cell (p := ⟨w.heap.size, 0, none⟩) C.out.2.2.2.2.2).trans C.out.1
        have d1 := (hB.cell (p := ⟨w.heap.size, 1, none⟩) C.out.2.2.2.2.2).trans C.out.2.1
        have g0 := (hB.frozen (p := ⟨w.heap.size, 0, none⟩) C.out.2.2.2.2.2).trans C.out.2.2.1
        have g1 := (hB.frozen (p := ⟨w.heap.size, 1, none⟩) C.out.2.2.2.2.2).trans C.out.2.2.2.1
        have hBw : Below w.heap.size w w2 := C.out.2.2.2.2.1.trans (hB.mono (by have := C.out.2.2.2.2.2; omega))
        have e0 : Below w.heap.size w ((w2.setCell ⟨w.heap.size, 0, none⟩ (.bool false)).setCell ⟨w.heap.size, 1, none⟩ (.slice aq D.length cq)) := (hBw.setCell (Nat.le_refl _) _).setCell (Nat.le_refl _) _
        have e1 : (w2.setCell ⟨w.heap.size, 0, none⟩ (.bool false)).cell? ⟨w.heap.size, 1, none⟩ = some (.slice none 0 0) := by
          rw [World.cell?_setCell_other _ _ _ _ (by simp)]; exact d1
        have e2 := hide ((hg.sl.setCell d0 (fun z => by simp) (.bool false)).setCell e1 (fun z => by simp) (.slice aq D.length cq))
        have e3 := hide hg.2
        have y0 := World.cell?_setCell_same _ _ (.bool false) d0
        have x1 := World.cell?_setCell_same _ _ (.slice aq D.length cq) e1
        have X := hide (And.intro y0 x1)
        clear e1 y0 x1 hg kd
        go_wp2
        refine bodyPost_ret (v := .tuple #[.agg #[.bool false, .slice aq D.length cq], .int .i64 0]) ?_ rfl ⟨0, aq, cq, D, _, rfl, ⟨e2.out, e3.out⟩, hDb, .inr ⟨HF.out, rfl, rfl⟩, e0⟩
        simp [results, Tryd.results61, go_sem, X.out.1, X.out.2]
theorem natural_any (w : World) (s : ByteArray) : Calls Tryd.prog 61 #[.string s] w fun e w' => NatAns w w' s e := by
  by_cases h : (5120 : Int) < (s.size : Int)
  · exact natural_long w s h
  · exact natural_short w s h
end Dm
end Go.Proofs.YtdiiankcjgoecaaDoor

namespace Go.Proofs.YtdiiankcjgoecaaDoor
namespace Lm
open Go.RowKit
open Dm (Err Fine err_fine)
theorem parse_e (w : World) (s : ByteArray) :
    Calls Tryd.prog 43 #[.string s] w fun e w' => ((∃ k : Int, Err s k ∧ e = .returned (.tuple #[.slice none 0 0, .int .i64 k])) ∨ (Fine s ∧ ∃ v, e = .returned (.tuple #[v, .int .i64 0]) ∧ Is w.heap.size w' v (dval (bytesOf s)))) ∧ Below w.heap.size w w' := by
  by_cases h1 : (5120 : Int) < (s.size : Int)
  · refine (parse_long w s h1).mono ?_
    rintro e w' ⟨rfl, hb⟩
    exact ⟨.inl ⟨2, .inl ⟨rfl, by omega⟩, rfl⟩, hb⟩
  · by_cases h2 : s.size = 0
    · refine (parse_none w s h2).mono ?_
      rintro e w' ⟨rfl, hb⟩
      exact ⟨.inl ⟨10, .inr ⟨rfl, by omega, fun hx => by omega⟩, rfl⟩, hb⟩
    · refine (parse_some w s (by omega) (by omega)).mono ?_
      rintro e w' ⟨hr, hb⟩
      rcases hr with ⟨hd, v, rfl, hi⟩ | ⟨hn, rfl⟩
      · exact ⟨.inr ⟨⟨by omega, by omega, hd⟩, v, rfl, hi⟩, hb⟩
      · exact ⟨.inl ⟨10, .inr ⟨rfl, by omega, fun hx => hn hx.2⟩, rfl⟩, hb⟩
end Lm
end Go.Proofs.YtdiiankcjgoecaaDoor

namespace Go.Proofs.YtdiiankcjgoecaaDoor
namespace Lm
open Go.RowKit
theorem take_val {ps Y qs : List Int} {k : Nat} {x y a c b t r : Int} (hk : qs.length = k) (hy : Y.getD k 0 = y) (ha : ps.getD k 0 = a) (ht : t = x * y + c) (hr : r = a - t % 4294967296 - b) (h1 : -4294967296 ≤ r) (h2 : r < 4294967296) (h : val qs - pw k * (c + b) = vf ps k - x * vf Y k) :
    val (qs ++ [r % 4294967296]) - pw (k + 1) * (t / 4294967296 + bor r) = vf ps (k + 1) - x * vf Y (k + 1) := by
  rw [val_snoc, vf, vf, ha, hy, hk, pw, sub_step h1 h2]
  have e : t = t % 4294967296 + 4294967296 * (t / 4294967296) := by omega
  have e1 : pw k * (r + 4294967296 * bor r) = pw k * r + 4294967296 * pw k * bor r := by rw [Int.mul_add, Int.mul_comm 4294967296 (pw k), Int.mul_assoc]
  have e2 : 4294967296 * pw k * (t / 4294967296 + bor r) = pw k * (4294967296 * (t / 4294967296)) + 4294967296 * pw k * bor r := by rw [Int.mul_add, Int.mul_comm 4294967296 (pw k), Int.mul_assoc]
  have e3 : pw k * (4294967296 * (t / 4294967296)) = pw k * t - pw k * (t % 4294967296) := by rw [← Int.mul_sub]; congr 1; omega
  have e4 : x * (vf Y k + pw k * y) = x * vf Y k + pw k * (x * y) := by rw [Int.mul_add, ← Int.mul_assoc x, Int.mul_comm x (pw k), Int.mul_assoc]
  have e5 : pw k * t = pw k * (x * y) + pw k * c := by rw [ht, Int.mul_add]
  have e6 : pw k * r = pw k * a - pw k * (t % 4294967296) - pw k * b := by rw [hr, Int.mul_sub, Int.mul_sub]
  have e7 : pw k * (c + b) = pw k * c + pw k * b := Int.mul_add _ _ _
  rw [e1, e2, e3, e4, e5, e6]
  omega
theorem take_carry {Y : List Int} {k : Nat} {x y c t : Int} (hy : Y.getD k 0 = y) (ht : t = x * y + c) (h : pw k * c ≤ x * vf Y k) : pw (k + 1) * (t / 4294967296) ≤ x * vf Y (k + 1) := by
  rw [vf, hy, pw]
  have e1 : 4294967296 * pw k * (t / 4294967296) = pw k * (4294967296 * (t / 4294967296)) := by rw [Int.mul_comm 4294967296 (pw k), Int.mul_assoc]
  have e2 : pw k * (4294967296 * (t / 4294967296)) ≤ pw k * t := Int.mul_le_mul_of_nonneg_left (by omega) (by have := pw_pos k; omega)
  have e3 : pw k * t = pw k * (x * y) + pw k * c := by rw [ht, Int.mul_add]
  have e4 : x * (vf Y k + pw k * y) = x * vf Y k + pw k * (x * y) := by rw [Int.mul_add, ← Int.mul_assoc x, Int.mul_comm x (pw k), Int.mul_assoc]
  omega
theorem carry_zero {Y : List Int} {n : Nat} {x c : Int} (hY : Limb Y) (hl : Y.length = n) (hx : 0 ≤ x ∧ x < 4294967296) (hc : 0 ≤ c) (h : pw (n + 1) * c ≤ x * vf Y (n + 1)) : c = 0 := by
  rw [vf_all Y _ (by omega), pw] at h
  have hb := val_bounds hY
  rw [hl] at hb
  have h1 : x * val Y ≤ 4294967295 * val Y := Int.mul_le_mul_of_nonneg_right (by omega) hb.1
  apply Classical.byContradiction
  intro hn
  have h2 : 4294967296 * pw n * 1 ≤ 4294967296 * pw n * c := Int.mul_le_mul_of_nonneg_left (by omega) (by have := pw_pos n; omega)
  omega
set_option maxRecDepth 20000 in
set_option maxHeartbeats 1000000 in
theorem takeTimes_any (w : World) (g o n cap c2 : Nat) (cur : Array Value) (ps Y : List Int) (a2 : Option Addr) (x : Int) (hx : 0 ≤ x ∧ x < 4294967296)
    (hh : w.heap[g]? = some (.cells cur 124 (0, 0))) (ha : At cur .u32 o ps) (hp : Limb ps) (hpl : ps.length = n + 1) (hm : n ≤ 1000000)
    (hY : ∀ wr cur', Wr w wr g cur' 124 → Sl wr (.slice a2 n c2) Y) :
    Calls Tryd.prog 123 #[.slice (some ⟨g, o, none⟩) (n + 1) cap, .slice a2 n c2, .int .u32 x] w fun e w' => ∃ qs b cur', e = .returned (.bool (b != 0)) ∧ (0 ≤ b ∧ b ≤ 1) ∧ val qs - pw (n + 1) * b = val ps - x * val Y ∧ Limb qs ∧ qs.length = n + 1 ∧ Wr w w' g cur' 124 ∧ cur'.size = cur.size ∧ At cur' .u32 o qs ∧ (∀ i, i < o ∨ o + (n + 1) ≤ i → cur'[i]? = cur[i]?) := by
  obtain ⟨hYl, g1, g2, g3⟩ := (hY _ _ (Wr.refl hh)).parts
  have HP := hide hp
  have HY := hide g3
  have HYL := hide hYl
  have HPL := hide hpl
  have HH := hide hh
  have HA := hide ha
  clear hp g3 hYl hpl hh ha
  go_enter Tryd.func123, Tryd.ntmps123
  go_wp2
  go_loopw [7, 8, 14] (fun cv bv i wr => ∃ (k : Nat) (c b : Int) (qs : List Int) (cur' : Array Value), k ≤ n + 1 ∧ cv = .int .u64 c ∧ bv = .int .i64 b ∧ i = .int .i64 k ∧ (0 ≤ c ∧ c < 4294967296) ∧ (0 ≤ b ∧ b ≤ 1) ∧ qs.length = k ∧ Limb qs ∧ val qs - pw k * (c + b) = vf ps k - x * vf Y k ∧ pw k * c ≤ x * vf Y k ∧ Wr w wr g cur' 124 ∧ cur'.size = cur.size ∧ At cur' .u32 o (qs ++ ps.drop k) ∧ (∀ i, i < o ∨ o + (n + 1) ≤ i → cur'[i]? = cur[i]?)) (fun _ _ i _ => n + 1 - (intOf i).toNat)
  case atStart => exact ⟨0, 0, 0, [], cur, Nat.zero_le _, rfl, rfl, rfl, by omega, by omega, rfl, limb_nil, by simp [val, vf, pw], by simp [vf], Wr.refl HH.out, rfl, by simpa using HA.out, fun _ _ => rfl⟩
  case round =>
    obtain ⟨k, c, b, qs, cur', hk, rfl, rfl, rfl, hc, hbb, hql, hq, hval, hcar, hwr, hcs, hat, hout⟩ := hrel
    have HQL := hide hql
    have HQ := hide hq
    have HV := hide hval
    have HCar := hide hcar
    have HW := hide hwr
    have HC := hide hcs
    have HT := hide hat
    have HO := hide hout
    clear hql hq hval hcar hwr hcs hat hout
    by_cases hlt : k < n + 1
    · have sy := hY _ _ HW.out
      have hlen : (qs ++ ps.drop k).length = n + 1 := by have := HQL.out; have := HPL.out; simp; omega
      have co := HT.out.cell HW.out.here k (by rw [hlen]; omega)
      have e1 : (qs ++ ps.drop k).getD k 0 = ps.getD k 0 := by
        rw [List.getD_eq_getElem?_getD, List.getElem?_append_right (by have := HQL.out; omega), List.getElem?_drop, List.getD_eq_getElem?_getD, HQL.out]
        congr 2
        omega
      rw [e1] at co
      have hfree := HW.out.free (o + k)
      have by' := limb_getD HY.out k
      have ba := limb_getD HP.out k
      obtain ⟨y, hy⟩ : ∃ y, Y.getD k 0 = y := ⟨_, rfl⟩
      obtain ⟨a, hpa⟩ : ∃ a, ps.getD k 0 = a := ⟨_, rfl⟩
      have ky : Hid (Calls Tryd.prog 92 #[.slice a2 n c2, .int .i64 k] wr fun e w' => e = .returned (.int .u32 y) ∧ w' = wr) := by rw [← hy]; exact limb_nat _ _ Y sy k
      rw [hy] at by'
      rw [hpa] at co ba
      have hxy := mul_bound hx by'
      have s0 : 0 ≤ (x * y + c) % 4294967296 ∧ (x * y + c) % 4294967296 < 4294967296 := by omega
      have s1 : -4294967296 ≤ a - (x * y + c) % 4294967296 - b := by omega
      have s2 : a - (x * y + c) % 4294967296 - b < 4294967296 := by omega
      have hand := and_bor s1 s2
      have hbo := bor_01 (a - (x * y + c) % 4294967296 - b)
      have HV' := hide (take_val (x := x) HQL.out hy hpa rfl rfl s1 s2 HV.out)
      have HCar' := hide (take_carry (x := x) hy rfl HCar.out)
      have HT' := hide (HT.out.set k ((a - (x * y + c) % 4294967296 - b) % 4294967296))
      have HW' := hide (HW.out.set (o + k) (.int .u32 ((a - (x * y + c) % 4294967296 - b) % 4294967296)))
      have d1 : (k : Int) < (n : Int) + 1 := by omega
      clear hlen e1 hy hpa sy
      go_wp2_with fail
      refine (ky.out).mono ?_
      rintro e w2 ⟨rfl, rfl⟩
      go_wp2
      go_roundw
      case rel =>
        refine ⟨k + 1, (x * y + c) / 4294967296, _, qs ++ [(a - (x * y + c) % 4294967296 - b) % 4294967296], _, by omega, rfl, rfl, by go_num, by omega, hbo, by have := HQL.out; simp; omega, limb_append.2 ⟨HQ.out, limb_cons.2 ⟨by omega, limb_nil⟩⟩, HV'.out, HCar'.out, HW'.out, by simpa using HC.out, by rw [← set_snoc qs ps k _ HQL.out (by have := HPL.out; omega)]; exact HT'.out, fun i hi => ?_⟩
        rw [Array.getElem?_setIfInBounds, if_neg (by omega)]
        exact HO.out i hi
      case measure => simp [intOf]; omega
    · have hkn : k = n + 1 := by omega
      subst hkn
      have hc0 := carry_zero HY.out HYL.out.symm hx hc.1 HCar.out
      have HVf : Hid (val qs - pw (n + 1) * b = val ps - x * val Y) := by
        have h9 := HV.out
        rw [hc0, Int.zero_add, vf_all ps _ (by have := HPL.out; omega), vf_all Y _ (by have := HYL.out; omega)] at h9
        exact h9
      have HTf : Hid (At cur' .u32 o qs) := by
        have h9 := HT.out
        rwa [List.drop_of_length_le (by have := HPL.out; omega), List.append_nil] at h9
      clear hc0
      go_wp2
      go_ret
      exact ⟨qs, b, cur', rfl, hbb, HVf.out, HQ.out, HQL.out, HW.out, HC.out, HTf.out, HO.out⟩
end Lm
end Go.Proofs.YtdiiankcjgoecaaDoor

namespace Go.Proofs.YtdiiankcjgoecaaDoor
namespace Lm
open Go.RowKit
set_option maxRecDepth 20000 in
set_option maxHeartbeats 1000000 in
theorem addBack_any (w : World) (g o n cap c2 : Nat) (cur : Array Value) (ps Y : List Int) (a2 : Option Addr)
    (hh : w.heap[g]? = some (.cells cur 124 (0, 0))) (ha : At cur .u32 o ps) (hp : Limb ps) (hpl : ps.length = n + 1) (hm : n ≤ 1000000)
    (hY : ∀ wr cur', Wr w wr g cur' 124 → Sl wr (.slice a2 n c2) Y) :
    Calls Tryd.prog 124 #[.slice (some ⟨g, o, none⟩) (n + 1) cap, .slice a2 n c2] w fun e w' => ∃ qs c cur', e = .returned (.tuple #[]) ∧ (0 ≤ c ∧ c ≤ 1) ∧ val qs + pw (n + 1) * c = val ps + val Y ∧ Limb qs ∧ qs.length = n + 1 ∧ Wr w w' g cur' 124 ∧ cur'.size = cur.size ∧ At cur' .u32 o qs ∧ (∀ i, i < o ∨ o + (n + 1) ≤ i → cur'[i]? = cur[i]?) := by
  obtain ⟨hYl, g1, g2, g3⟩ := (hY _ _ (Wr.refl hh)).parts
  have HP := hide hp
  have HY := hide g3
  have HYL := hide hYl
  have HPL := hide hpl
  have HH := hide hh
  have HA := hide ha
  clear hp g3 hYl hpl hh ha
  go_enter Tryd.func124, Tryd.ntmps124
  go_wp2
  go_loopw [4, 9] (fun cv i wr => ∃ (k : Nat) (c : Int) (qs : List Int) (cur' : Array Value), k ≤ n + 1 ∧ cv = .int .u64 c ∧ i = .int .i64 k ∧ (0 ≤ c ∧ c ≤ 1) ∧ qs.length = k ∧ Limb qs ∧ val qs + pw k * c = vf ps k + vf Y k ∧ Wr w wr g cur' 124 ∧ cur'.size = cur.size ∧ At cur' .u32 o (qs ++ ps.drop k) ∧ (∀ i, i < o ∨ o + (n + 1) ≤ i → cur'[i]? = cur[i]?)) (fun _ i _ => n + 1 - (intOf i).toNat)
  case atStart => exact ⟨0, 0, [], cur, Nat.zero_le _, rfl, rfl, by omega, rfl, limb_nil, by simp [val, vf, pw], Wr.refl HH.out, rfl, by simpa using HA.out, fun _ _ => rfl⟩
  case round =>
    obtain ⟨k, c, qs, cur', hk, rfl, rfl, hc, hql, hq, hval, hwr, hcs, hat, hout⟩ := hrel
    have HQL := hide hql
    have HQ := hide hq
    have HV := hide hval
    have HW := hide hwr
    have HC := hide hcs
    have HT := hide hat
    have HO := hide hout
    clear hql hq hval hwr hcs hat hout
    by_cases hlt : k < n + 1
    · have sy := hY _ _ HW.out
      have hlen : (qs ++ ps.drop k).length = n + 1 := by have := HQL.out; have := HPL.out; simp; omega
      have co := HT.out.cell HW.out.here k (by rw [hlen]; omega)
      have e1 : (qs ++ ps.drop k).getD k 0 = ps.getD k 0 := by
        rw [List.getD_eq_getElem?_getD, List.getElem?_append_right (by have := HQL.out; omega), List.getElem?_drop, List.getD_eq_getElem?_getD, HQL.out]
        congr 2
        omega
      rw [e1] at co
      have hfree := HW.out.free (o + k)
      have by' := limb_getD HY.out k
      have ba := limb_getD HP.out k
      obtain ⟨y, hy⟩ : ∃ y, Y.getD k 0 = y := ⟨_, rfl⟩
      obtain ⟨a, hpa⟩ : ∃ a, ps.getD k 0 = a := ⟨_, rfl⟩
      have ky : Hid (∀ q, Calls Tryd.prog 92 #[.slice a2 n c2, .int .i64 k] (wr.drewN q) fun e w' => e = .returned (.int .u32 y) ∧ w' = wr.drewN q) := by
        intro q; rw [← hy]; exact limb_nat _ _ Y (sy.below (below_drewN (Below.refl _ _) q)) k
      rw [hy] at by'
      rw [hpa] at co ba
      have hst := add_step ba by' hc rfl
      have HV' := hide (add_val HQL.out hpa hy rfl HV.out)
      have HT' := hide (HT.out.set k ((a + y + c) % 4294967296))
      have HW' := hide (HW.out.set (o + k) (.int .u32 ((a + y + c) % 4294967296)))
      have d1 : (k : Int) < (n : Int) + 1 := by omega
      clear hlen e1 hy hpa sy
      go_wp2
      go_quiet ((go_at_call 92; exact Calls.quiet_of_same (ky.out _)))
      go_wp2
      go_roundw
      case rel =>
        refine ⟨k + 1, (a + y + c) / 4294967296, qs ++ [(a + y + c) % 4294967296], _, by omega, rfl, by go_num, by omega, by have := HQL.out; simp; omega, limb_append.2 ⟨HQ.out, limb_cons.2 ⟨by omega, limb_nil⟩⟩, HV'.out, HW'.out.drewN _, by simpa using HC.out, by rw [← set_snoc qs ps k _ HQL.out (by have := HPL.out; omega)]; exact HT'.out, fun i hi => ?_⟩
        rw [Array.getElem?_setIfInBounds, if_neg (by omega)]
        exact HO.out i hi
      case measure => simp [intOf]; omega
    · have hkn : k = n + 1 := by omega
      subst hkn
      have HVf : Hid (val qs + pw (n + 1) * c = val ps + val Y) := by
        have h9 := HV.out
        rw [vf_all ps _ (by have := HPL.out; omega), vf_all Y _ (by have := HYL.out; omega)] at h9
        exact h9
      have HTf : Hid (At cur' .u32 o qs) := by
        have h9 := HT.out
        rwa [List.drop_of_length_le (by have := HPL.out; omega), List.append_nil] at h9
      go_wp2
      go_end0
      exact ⟨qs, c, cur', rfl, hc, HVf.out, HQ.out, HQL.out, HW.out, HC.out, HTf.out, HO.out⟩
end Lm
end Go.Proofs.YtdiiankcjgoecaaDoor

namespace Go.Proofs.YtdiiankcjgoecaaDoor
namespace Lm
open Go.RowKit
set_option maxRecDepth 20000 in
set_option maxHeartbeats 400000 in
theorem lead_any (x : Int) (w : World) (h0 : 0 ≤ x) (h1 : x < 4294967296) :
    Calls Tryd.prog 120 #[.int .u32 x] w fun e w' => e = .returned (.int .i64 (32 - (Lib.bitLen x.toNat : Nat))) ∧ w' = w := by
  have hl : Lib.bitLen x.toNat ≤ 32 := Lib.bitLen_le _ 32 (by omega) (by omega)
  have kl := hide (len32_any x w h0 h1)
  generalize Lib.bitLen x.toNat = l at hl kl
  go_enter Tryd.func120, Tryd.ntmps120
  go_wp2_with fail
  refine (kl.out).mono ?_
  rintro e w' ⟨rfl, rfl⟩
  go_wp2
  go_ret
  exact ⟨rfl, rfl⟩
theorem p2_pow (s : Nat) : (2 : Int) ^ s = p2 s := by
  induction s with
  | zero => rfl
  | succ s ih => rw [Int.pow_succ, ih, p2]; omega
theorem nat_p2 (s : Nat) : ((2 ^ s : Nat) : Int) = p2 s := by
  induction s with
  | zero => rfl
  | succ s ih => rw [Nat.pow_succ, p2]; omega
theorem up_bound {x c : Int} {s : Nat} (h1 : 0 ≤ x) (h2 : x < 4294967296) (hs : s ≤ 31) (h3 : 0 ≤ c) (h4 : c < p2 s) : 0 ≤ x * p2 s + c ∧ x * p2 s + c < 4294967296 * p2 s ∧ x * p2 s + c < 9223372036854775808 ∧ 0 ≤ x * p2 s := by
  have hp := p2_pos s
  have hp2 := p2_mono (m := s) (n := 31) hs
  rw [show p2 31 = 2147483648 from by decide] at hp2
  have e1 : 0 ≤ x * p2 s := Int.mul_nonneg h1 (by omega)
  have e2 : (x + 1) * p2 s ≤ 4294967296 * p2 s := Int.mul_le_mul_of_nonneg_right (by omega) (by omega)
  rw [Int.add_mul] at e2
  omega
theorem or_shift {x c : Int} {s : Nat} (h1 : 0 ≤ x) (h2 : x < 4294967296) (hs : s ≤ 31) (h3 : 0 ≤ c) (h4 : c < p2 s) : bits .or .u64 (IntKind.u64.wrap (x * 2 ^ s)) c = x * p2 s + c := by
  have hb := up_bound h1 h2 hs h3 h4
  have hp := p2_pos s
  rw [p2_pow, IntKind.wrap_u64, Int.emod_eq_of_lt hb.2.2.2 (by omega), u64_or _ _ hb.2.2.2 (by omega) h3 (by omega)]
  obtain ⟨a, rfl⟩ := Int.eq_ofNat_of_zero_le h1
  obtain ⟨d, rfl⟩ := Int.eq_ofNat_of_zero_le h3
  have e1 : ((a : Int) * p2 s).toNat = 2 ^ s * a := by
    rw [← nat_p2, Int.mul_comm, ← Int.natCast_mul, Int.toNat_natCast]
  have hd : d < 2 ^ s := by have := nat_p2 s; omega
  rw [e1, Int.toNat_natCast, ← Nat.two_pow_add_eq_or_of_lt hd, Int.natCast_add, Int.natCast_mul, nat_p2, Int.mul_comm]
theorem up_val {zs qs : List Int} {k : Nat} {z c m t : Int} (hk : qs.length = k) (hz : zs.getD k 0 = z) (hs : t = z * m + c) (h : val qs + pw k * c = vf zs k * m) :
    val (qs ++ [t % 4294967296]) + pw (k + 1) * (t / 4294967296) = vf zs (k + 1) * m := by
  rw [val_snoc, vf, hz, hk, pw, Int.add_mul]
  have e : t = t % 4294967296 + 4294967296 * (t / 4294967296) := by omega
  have e2 : pw k * (t % 4294967296) + 4294967296 * pw k * (t / 4294967296) = pw k * t := by
    rw [Int.mul_comm 4294967296 (pw k), Int.mul_assoc, ← Int.mul_add, ← e]
  have e3 : pw k * z * m = pw k * (z * m) := by rw [Int.mul_assoc]
  rw [Int.add_assoc, e2, hs, Int.mul_add, e3]
  omega
set_option maxRecDepth 20000 in
set_option maxHeartbeats 1000000 in
theorem moveUp_any (w : World) (ao : Option Addr) (n cap : Nat) (xs : List Int) (hx : Sl w (.slice ao n cap) xs) (s : Nat) (hs : s ≤ 31) (hm : xs.length ≤ 1000000) :
    Calls Tryd.prog 121 #[.slice ao n cap, .int .u64 s] w fun e w' => ∃ cur qs, e = .returned (.slice (some ⟨w.heap.size, 0, none⟩) (n + 1) (n + 1)) ∧ Limb qs ∧ qs.length = n + 1 ∧ val qs = val xs * p2 s ∧ w'.heap[w.heap.size]? = some (.cells cur 124 (0, 0)) ∧ cur.size = n + 1 ∧ At cur .u32 0 qs ∧ Below w.heap.size w w' := by
  obtain ⟨rfl, h1, h2, h3⟩ := hx.parts
  obtain ⟨i0, hi, hz0, hz1, hz2⟩ := info_parts info32
  have H3 := hide h3
  have hp := p2_pos s
  have hp2 := p2_mono (m := s) (n := 31) hs
  rw [show p2 31 = 2147483648 from by decide] at hp2
  clear h3
  go_enter Tryd.func121, Tryd.ntmps121
  go_wp2_with (refine wpList_make_full _ rfl (.tmp 12) (.tmp 12) 22 rfl w.heap.size 124 i0 (.int .u32 0) 1 Tryd.underlying22 hi hz0 hz1 .i64 .i64 _ _ (xs.length + 1) rfl rfl (by omega) (by omega) (by rw [hz2]; omega) (by unfold maxLen; omega) (Nat.le_refl _) ?hK)
  case hK =>
    intro w1 hown hgrow
    obtain ⟨_, cur, hh, hcs, hat⟩ := block_of_made hown
    have hb1 : Below w.heap.size w w1 := (Below.refl w.heap.size w).grown hgrow (Nat.le_refl _) (by simp)
    have HH := hide hh
    have HS := hide hcs
    have HA := hide hat
    clear hown hgrow hh hcs hat
    go_wp2
    go_loopw [6, 16] (fun cv i wr => ∃ (k : Nat) (c : Int) (qs : List Int) (cur' : Array Value), k ≤ xs.length ∧ cv = .int .u64 c ∧ i = .int .i64 k ∧ (0 ≤ c ∧ c < p2 s) ∧ qs.length = k ∧ Limb qs ∧ val qs + pw k * c = vf xs k * p2 s ∧ Wr w1 wr w.heap.size cur' 124 ∧ cur'.size = xs.length + 1 ∧ At cur' .u32 0 (qs ++ (List.replicate (xs.length + 1) 0).drop k)) (fun _ i _ => xs.length - (intOf i).toNat)
    case atStart => exact ⟨0, 0, [], cur, Nat.zero_le _, rfl, rfl, by omega, rfl, limb_nil, by simp [val, vf, pw], Wr.refl HH.out, HS.out, by simpa using HA.out⟩
    case round =>
      obtain ⟨k, c, qs, cur', hk, rfl, rfl, hcb, hql, hq, hval, hwr, hcs, hat⟩ := hrel
      have HQL := hide hql
      have HQ := hide hq
      have HV := hide hval
      have HW := hide hwr
      have HC := hide hcs
      have HT := hide hat
      clear hql hq hval hwr hcs hat
      by_cases hlt : k < xs.length
      · have sx := HW.out.sl (Nat.le_refl _) hb1 rfl hx
        obtain ⟨b, off, rfl, hcx⟩ := sx.cells (by omega)
        have cx := hcx k (by omega)
        have bx := limb_getD H3.out k
        obtain ⟨x, hxk⟩ : ∃ x, xs.getD k 0 = x := ⟨_, rfl⟩
        rw [hxk] at cx bx
        have hlen : (qs ++ (List.replicate (xs.length + 1) (0 : Int)).drop k).length = xs.length + 1 := by have := HQL.out; simp; omega
        have hcell := HT.out.cell HW.out.here k (by rw [hlen]; omega)
        rw [Nat.zero_add] at hcell
        generalize (qs ++ (List.replicate (xs.length + 1) (0 : Int)).drop k).getD k 0 = old at hcell
        have hfree := HW.out.free k
        obtain ⟨M, hM⟩ : ∃ M, M = x * p2 s + c := ⟨_, rfl⟩
        have hor : bits .or .u64 (IntKind.u64.wrap (x * 2 ^ s)) c = M := by rw [hM]; exact or_shift bx.1 bx.2 hs hcb.1 hcb.2
        have hmb := up_bound bx.1 bx.2 hs hcb.1 hcb.2
        rw [← hM] at hmb
        have m1 := hmb.1
        have m2 := hmb.2.1
        have m3 := hmb.2.2.1
        have HV' := hide (up_val HQL.out hxk hM HV.out)
        have HT' := hide (HT.out.set k (M % 4294967296))
        have HW' := hide (HW.out.set k (.int .u32 (M % 4294967296)))
        clear hlen sx hcx hM hmb hxk
        go_wp2
        go_roundw
        case rel => exact ⟨k + 1, M / 4294967296, qs ++ [M % 4294967296], _, by omega, rfl, by go_num, by omega, by have := HQL.out; simp; omega, limb_append.2 ⟨HQ.out, limb_cons.2 ⟨by omega, limb_nil⟩⟩, HV'.out, HW'.out, by simpa using HC.out, by rw [← set_snoc qs _ k _ HQL.out (by simp; omega)]; simpa using HT'.out⟩
        case measure => simp [intOf]; omega
      · have hkM : k = xs.length := by omega
        subst hkM
        have hlen : (qs ++ (List.replicate (xs.length + 1) (0 : Int)).drop xs.length).length = xs.length + 1 := by have := HQL.out; simp; omega
        have hcell := HT.out.cell HW.out.here xs.length (by rw [hlen]; omega)
        rw [Nat.zero_add] at hcell
        have hfree := HW.out.free xs.length
        generalize hold : (qs ++ (List.replicate (xs.length + 1) (0 : Int)).drop xs.length).getD xs.length 0 = old at hcell
        have hat2 := HT.out.set xs.length c
        rw [set_snoc qs _ xs.length c HQL.out (by simp), List.drop_of_length_le (by simp), List.append_nil, Nat.zero_add] at hat2
        have hw2 := HW.out.set xs.length (.int .u32 c)
        have hlr : Limb (qs ++ [c]) := limb_append.2 ⟨HQ.out, limb_cons.2 ⟨by omega, limb_nil⟩⟩
        have R := hide (And.intro hat2 (And.intro hw2 (And.intro hlr (show val (qs ++ [c]) = val xs * p2 s by
          rw [val_snoc, HQL.out, HV.out, vf_all xs _ (Nat.le_refl _)]))))
        have hbel : Below w.heap.size w (wr.setCell ⟨w.heap.size, xs.length, none⟩ (.int .u32 c)) := hb1.trans (hw2.below (Nat.le_refl _))
        have hc2 : c < 4294967296 := by omega
        clear hat2 hw2 hlr hlen hold
        go_wp2
        go_ret
        exact ⟨_, qs ++ [c], rfl, R.out.2.2.1, by have := HQL.out; simp; omega, R.out.2.2.2, R.out.2.1.here, by simpa using HC.out, R.out.1, hbel⟩
end Lm
end Go.Proofs.YtdiiankcjgoecaaDoor

namespace Go.Proofs.YtdiiankcjgoecaaDoor
namespace Lm
open Go.RowKit
theorem p2_split {s : Nat} (hs : s ≤ 31) : p2 s * p2 (32 - s) = 4294967296 := by
  rw [← p2_add, show s + (32 - s) = 32 by omega]
  decide
theorem down_limb {A C : Int} {s : Nat} (hs : s ≤ 31) (hA : 0 ≤ A ∧ A < 4294967296) (hC : 0 ≤ C) : 0 ≤ (C * 4294967296 + A) / p2 s ∧ p2 s * (((C * 4294967296 + A) / p2 s) % 4294967296) = A - A % p2 s + C % p2 s * 4294967296 := by
  have hP := p2_pos s
  have hR := p2_pos (32 - s)
  have hPR := p2_split hs
  generalize p2 s = P at *
  generalize p2 (32 - s) = R at *
  have e1 : C * 4294967296 + A = A + P * (C * R) := by
    rw [← hPR, ← Int.mul_assoc C, Int.mul_comm C P, Int.mul_assoc]
    omega
  have e2 : (C * 4294967296 + A) / P = A / P + C * R := by rw [e1, Int.add_mul_ediv_left _ _ (by omega)]
  have hq : 0 ≤ A / P := Int.ediv_nonneg hA.1 (by omega)
  have hc0 : 0 ≤ C % P ∧ C % P < P := ⟨Int.emod_nonneg _ (by omega), Int.emod_lt_of_pos _ (by omega)⟩
  have ec := Int.mul_ediv_add_emod C P
  have e3 : C * R = C % P * R + 4294967296 * (C / P) := by
    have : C * R = (P * (C / P) + C % P) * R := by rw [ec]
    rw [this, Int.add_mul, ← hPR, Int.mul_assoc P, Int.mul_comm (C / P) R, ← Int.mul_assoc]
    omega
  have hCR : 0 ≤ C * R := Int.mul_nonneg hC (by omega)
  have h0R : 0 ≤ C % P * R := Int.mul_nonneg hc0.1 (by omega)
  have ea := Int.mul_ediv_add_emod A P
  have ham : 0 ≤ A % P := Int.emod_nonneg _ (by omega)
  have hAR : A / P < R := by
    apply Int.ediv_lt_of_lt_mul (by omega)
    rw [Int.mul_comm, hPR]
    exact hA.2
  have hlt : A / P + C % P * R < 4294967296 := by
    have h1 : (C % P + 1) * R ≤ P * R := Int.mul_le_mul_of_nonneg_right (by omega) (by omega)
    rw [hPR, Int.add_mul] at h1
    omega
  refine ⟨by rw [e2]; omega, ?_⟩
  have e4 : (A / P + C * R) % 4294967296 = A / P + C % P * R := by
    rw [e3, ← Int.add_assoc, Int.add_mul_emod_self_left, Int.emod_eq_of_lt (by omega) hlt]
  rw [e2, e4, Int.mul_add, ← Int.mul_assoc, Int.mul_comm P (C % P), Int.mul_assoc, hPR]
  omega
theorem down_val {xs qs : List Int} {k : Nat} {P o r0 A C : Int} (hk : qs.length = k) (hA : xs.getD k 0 = A) (ho : P * o = A - A % P + C % P * 4294967296) (h : P * val qs + r0 = vf xs k + pw k * (A % P)) : P * val (qs ++ [o]) + r0 = vf xs (k + 1) + pw (k + 1) * (C % P) := by
  rw [val_snoc, vf, hA, hk, pw, Int.mul_add]
  have e1 : P * (pw k * o) = pw k * (P * o) := by rw [← Int.mul_assoc, Int.mul_comm P, Int.mul_assoc]
  have e2 : pw k * (P * o) = pw k * A - pw k * (A % P) + 4294967296 * pw k * (C % P) := by
    rw [ho, Int.mul_add, Int.mul_sub, Int.mul_comm (C % P), ← Int.mul_assoc, Int.mul_comm (pw k) 4294967296]
  omega
set_option maxRecDepth 20000 in
set_option maxHeartbeats 1000000 in
theorem moveDown_any (w : World) (ao : Option Addr) (n cap : Nat) (xs : List Int) (hx : Sl w (.slice ao n cap) xs) (s : Nat) (hs : s ≤ 31) (hm : xs.length ≤ 1000000) :
    Calls Tryd.prog 125 #[.slice ao n cap, .int .u64 s] w fun e w' => ∃ v, e = .returned v ∧ Is w.heap.size w' v (val xs / p2 s) ∧ Below w.heap.size w w' := by
  obtain ⟨rfl, h1, h2, h3⟩ := hx.parts
  obtain ⟨i0, hi, hz0, hz1, hz2⟩ := info_parts info32
  have H3 := hide h3
  clear h3
  go_enter Tryd.func125, Tryd.ntmps125
  go_wp2_with (refine wpList_make_full _ rfl (.tmp 10) (.tmp 10) 22 rfl w.heap.size 124 i0 (.int .u32 0) 1 Tryd.underlying22 hi hz0 hz1 .i64 .i64 _ _ xs.length rfl rfl (by omega) (by omega) (by rw [hz2]; omega) (by unfold maxLen; omega) (Nat.le_refl _) ?hK)
  case hK =>
    intro w1 hown hgrow
    obtain ⟨_, cur, hh, hcs, hat⟩ := block_of_made hown
    have hb1 : Below w.heap.size w w1 := (Below.refl w.heap.size w).grown hgrow (Nat.le_refl _) (by simp)
    have HH := hide hh
    have HS := hide hcs
    have HA := hide hat
    clear hown hgrow hh hcs hat
    go_wp2
    go_loopw [14] (fun i wr => ∃ (k : Nat) (qs : List Int) (cur' : Array Value), k ≤ xs.length ∧ i = .int .i64 k ∧ qs.length = k ∧ Limb qs ∧ p2 s * val qs + xs.getD 0 0 % p2 s = vf xs k + pw k * (xs.getD k 0 % p2 s) ∧ Wr w1 wr w.heap.size cur' 124 ∧ cur'.size = xs.length ∧ At cur' .u32 0 (qs ++ (List.replicate xs.length 0).drop k)) (fun i _ => xs.length - (intOf i).toNat)
    case atStart => exact ⟨0, [], cur, Nat.zero_le _, rfl, rfl, limb_nil, by simp [val, vf, pw], Wr.refl HH.out, HS.out, by simpa using HA.out⟩
    case round =>
      obtain ⟨k, qs, cur', hk, rfl, hql, hq, hval, hwr, hcs, hat⟩ := hrel
      have HQL := hide hql
      have HQ := hide hq
      have HV := hide hval
      have HW := hide hwr
      have HC := hide hcs
      have HT := hide hat
      clear hql hq hval hwr hcs hat
      by_cases hlt : k < xs.length
      · have sx := HW.out.sl (Nat.le_refl _) hb1 rfl hx
        obtain ⟨b, off, rfl, hcx⟩ := sx.cells (by omega)
        have cx := hcx k (by omega)
        have bx := limb_getD H3.out k
        have by' := limb_getD H3.out (k + 1)
        have kl : Hid (Calls Tryd.prog 92 #[.slice (some ⟨b, off, none⟩) xs.length cap, .int .i64 ((k : Int) + 1)] wr fun e w' => e = .returned (.int .u32 (xs.getD (k + 1) 0)) ∧ w' = wr) := by
          have h9 := limb_any wr _ xs sx ((k : Int) + 1) (by omega)
          rwa [show ((k : Int) + 1).toNat = k + 1 by omega] at h9
        have HVn := hide (fun o ho => down_val (o := o) (C := xs.getD (k + 1) 0) HQL.out rfl ho HV.out)
        generalize hCe : xs.getD (k + 1) 0 = C at by' kl HVn
        have HCE := hide hCe
        clear hCe
        generalize xs.getD k 0 = A at cx bx HVn
        have hdl := down_limb hs bx by'.1
        have hor := or_join C A by'.1 by'.2 bx.1 bx.2
        have hlen : (qs ++ (List.replicate xs.length (0 : Int)).drop k).length = xs.length := by have := HQL.out; simp; omega
        have hcell := HT.out.cell HW.out.here k (by rw [hlen]; omega)
        rw [Nat.zero_add] at hcell
        generalize (qs ++ (List.replicate xs.length (0 : Int)).drop k).getD k 0 = old at hcell
        have hfree := HW.out.free k
        obtain ⟨M, hM⟩ : ∃ M, M = C * 4294967296 + A := ⟨_, rfl⟩
        rw [← hM] at hor hdl
        have hM0 : 0 ≤ M := by omega
        have hM1 : M < 18446744073709551616 := by omega
        have hpw := p2_pow s
        have HVf := hide (HVn.out _ hdl.2)
        have hd0 := hdl.1
        have HT' := hide (HT.out.set k (M / p2 s % 4294967296))
        have HW' := hide (HW.out.set k (.int .u32 (M / p2 s % 4294967296)))
        have hp1 := p2_pos s
        clear hlen sx hcx hM hdl HVn
        go_wp2_with fail
        refine (kl.out).mono ?_
        rintro e w2 ⟨rfl, rfl⟩
        go_wp2
        go_roundw
        case rel => exact ⟨k + 1, qs ++ [M / p2 s % 4294967296], _, by omega, by go_num, by have := HQL.out; simp; omega, limb_append.2 ⟨HQ.out, limb_cons.2 ⟨by omega, limb_nil⟩⟩, by rw [HCE.out]; exact HVf.out, HW'.out, by simpa using HC.out, by rw [← set_snoc qs _ k _ HQL.out (by simp; omega)]; simpa using HT'.out⟩
        case measure => simp [intOf]; omega
      · have hkM : k = xs.length := by omega
        subst hkM
        have hat2 := HT.out
        rw [List.drop_of_length_le (by simp), List.append_nil] at hat2
        have how : Ow w.heap.size wr (.slice (some ⟨w.heap.size, 0, none⟩) xs.length xs.length) qs := by
          have := HQL.out
          exact ⟨_, xs.length, by rw [this], by omega, by unfold maxLen; omega, HQ.out, .inr ⟨_, 0, _, rfl, Nat.le_refl _, HW.out.here, by rw [HC.out]; omega, hat2⟩⟩
        have hbel : Below w.heap.size w wr := hb1.trans (HW.out.below (Nat.le_refl _))
        have his := how.is_cut (x := val xs / p2 s) (by
          have hv := HV.out
          have hz : xs.getD xs.length 0 = 0 := by rw [List.getD_eq_getElem?_getD, List.getElem?_eq_none (Nat.le_refl _)]; rfl
          rw [hz, Int.zero_emod, Int.mul_zero, Int.add_zero, vf_all xs _ (Nat.le_refl _)] at hv
          have hp1 := p2_pos s
          have hr := Int.emod_lt_of_pos (xs.getD 0 0) (show 0 < p2 s by omega)
          have hr0 := Int.emod_nonneg (xs.getD 0 0) (show p2 s ≠ 0 by omega)
          have := div_of (a := val xs) (b := p2 s) (q := val qs) (by omega) (by rw [← hv, Int.mul_comm]) hr0 hr
          exact this.1.symm)
        clear hat2
        go_wp2_with fail
        refine (cut_any _ _ _ _ _ how.sl).mono ?_
        rintro e w2 ⟨rfl, rfl⟩
        go_wp2
        go_ret
        exact ⟨_, rfl, his, hbel⟩
end Lm
end Go.Proofs.YtdiiankcjgoecaaDoor

namespace Go.Proofs.YtdiiankcjgoecaaDoor
namespace Lm
open Go.RowKit
theorem guess_start {v1 v2 u2 U g r : Int} (h2 : 0 ≤ v2) (h3 : u2 < 4294967296) (hg : U = g * v1 + r) (hr : r < v1) (hg0 : 0 ≤ g) : U * 4294967296 + u2 < (g + 1) * (v1 * 4294967296 + v2) := by
  have e1 : (g + 1) * (v1 * 4294967296 + v2) = (g * v1 + v1) * 4294967296 + (g + 1) * v2 := by
    rw [Int.mul_add, ← Int.mul_assoc, Int.add_mul, Int.one_mul]
  have e2 : 0 ≤ (g + 1) * v2 := Int.mul_nonneg (by omega) h2
  rw [e1]
  omega
theorem guess_le {v1 v2 u2 U g r : Int} (hg : g * v1 + r = U) (h : g * v2 ≤ r * 4294967296 + u2) : g * (v1 * 4294967296 + v2) ≤ U * 4294967296 + u2 := by
  rw [Int.mul_add, ← Int.mul_assoc, ← hg]
  omega
theorem guess_gt {v1 v2 u2 U g r : Int} (hg : g * v1 + r = U) (h : r * 4294967296 + u2 < g * v2) : U * 4294967296 + u2 < g * (v1 * 4294967296 + v2) := by
  rw [Int.mul_add, ← Int.mul_assoc, ← hg]
  omega
theorem guess_break {v1 v2 u2 U g r : Int} (hv : 0 ≤ v2 ∧ v2 < 4294967296) (hu : 0 ≤ u2) (hg : g * v1 + r = U) (hr : 4294967296 ≤ r) (hg0 : 0 ≤ g) (hg1 : g < 4294967296) : g * (v1 * 4294967296 + v2) ≤ U * 4294967296 + u2 := by
  apply guess_le hg
  have h1 : g * v2 ≤ 4294967295 * v2 := Int.mul_le_mul_of_nonneg_right (by omega) hv.1
  omega
theorem guess_top {v1 U g r : Int} (hv : 2147483648 ≤ v1) (hU : U ≤ v1 * 4294967296 + 4294967295) (hg : g * v1 + r = U) (_hr : 0 ≤ r) (hb : 4294967296 ≤ r + v1) : g ≤ 4294967296 := by
  apply Classical.byContradiction
  intro hn
  have h1 : 4294967297 * v1 ≤ g * v1 := Int.mul_le_mul_of_nonneg_right (by omega) (by omega)
  omega
theorem guess_max {v1 U g r : Int} (hv : 2147483648 ≤ v1) (hU : U ≤ v1 * 4294967296 + 4294967295) (hg : g * v1 + r = U) (hr : 0 ≤ r) : g ≤ 4294967297 := by
  apply Classical.byContradiction
  intro hn
  have h1 : 4294967298 * v1 ≤ g * v1 := Int.mul_le_mul_of_nonneg_right (by omega) (by omega)
  omega
set_option maxRecDepth 20000 in
set_option maxHeartbeats 2000000 in
theorem guess_any (w : World) (a1 a2 : Option Addr) (n c1 c2 : Nat) (ps Y : List Int) (hp : Sl w (.slice a1 (n + 2 + 1) c1) ps) (hy : Sl w (.slice a2 (n + 2) c2) Y)
    (htop : 2147483648 ≤ Y.getD (n + 1) 0) (hu : ps.getD (n + 2) 0 ≤ Y.getD (n + 1) 0) :
    Calls Tryd.prog 122 #[.slice a1 (n + 2 + 1) c1, .slice a2 (n + 2) c2] w fun e w' => ∃ g : Int, e = .returned (.int .u32 g) ∧ (0 ≤ g ∧ g < 4294967296) ∧ g * (Y.getD (n + 1) 0 * 4294967296 + Y.getD n 0) ≤ (ps.getD (n + 2) 0 * 4294967296 + ps.getD (n + 1) 0) * 4294967296 + ps.getD n 0 ∧ (4294967296 ≤ g + 1 ∨ (ps.getD (n + 2) 0 * 4294967296 + ps.getD (n + 1) 0) * 4294967296 + ps.getD n 0 < (g + 1) * (Y.getD (n + 1) 0 * 4294967296 + Y.getD n 0)) ∧ ∃ q, w' = w.drewN q := by
  obtain ⟨hpl, p1, p2, p3⟩ := hp.parts
  obtain ⟨hyl, y1, y2, y3⟩ := hy.parts
  obtain ⟨b, off, rfl, hc⟩ := hp.cells (by omega)
  obtain ⟨b', off', rfl, hc'⟩ := hy.cells (by omega)
  have f0 := hc (n + 2) (by omega)
  have f1 := hc (n + 1) (by omega)
  have f2 := hc n (by omega)
  have e1 := hc' (n + 1) (by omega)
  have e2 := hc' n (by omega)
  have bu0 := limb_getD p3 (n + 2)
  have bu1 := limb_getD p3 (n + 1)
  have bu2 := limb_getD p3 n
  have bv1 := limb_getD y3 (n + 1)
  have bv2 := limb_getD y3 n
  generalize ps.getD (n + 2) 0 = u0 at *
  generalize ps.getD (n + 1) 0 = u1 at *
  generalize ps.getD n 0 = u2 at *
  generalize Y.getD (n + 1) 0 = v1 at *
  generalize Y.getD n 0 = v2 at *
  have hN : n + 3 ≤ 9223372036854775807 := by omega
  have hor1 := or_join u0 u1 bu0.1 bu0.2 bu1.1 bu1.2
  obtain ⟨U, hU⟩ : ∃ U, U = u0 * 4294967296 + u1 := ⟨_, rfl⟩
  rw [← hU] at hor1 ⊢
  have hU0 : 0 ≤ U := by omega
  have hUb : U < 18446744073709551616 := by omega
  have hUm : U ≤ v1 * 4294967296 + 4294967295 := by omega
  have HU := hide hU
  clear hc hc' p3 y3 hpl hyl hU
  go_enter Tryd.func122, Tryd.ntmps122
  go_wp2
  go_quiet (fail)
  go_wp2
  replace f0 : (w.drewN nq).cell? _ = _ := f0
  replace f1 : (w.drewN nq).cell? _ = _ := f1
  replace f2 : (w.drewN nq).cell? _ = _ := f2
  replace e1 : (w.drewN nq).cell? _ = _ := e1
  replace e2 : (w.drewN nq).cell? _ = _ := e2
  generalize hwq : w.drewN nq = wq at f0 f1 f2 e1 e2 ⊢
  have HQ : Hid (∃ q, wq = w.drewN q) := ⟨_, hwq.symm⟩
  clear hwq
  go_quiet (fail)
  go_wp2
  replace f2 : (wq.drewN nq).cell? _ = _ := f2
  replace HQ : Hid (∃ q, wq.drewN nq = w.drewN q) := by
    obtain ⟨q, hq⟩ := HQ.out
    exact ⟨q + nq, by rw [hq]; simp [World.drewN]; omega⟩
  generalize wq.drewN nq = wz at f2 HQ ⊢
  have hv0 : 0 < v1 := by omega
  have hq0 : 0 ≤ U / v1 := Int.ediv_nonneg hU0 (by omega)
  have hqm := Int.mul_ediv_add_emod U v1
  have hr0 := Int.emod_nonneg U (show v1 ≠ 0 by omega)
  have hr1 := Int.emod_lt_of_pos U hv0
  have hq1 : U / v1 ≤ 4294967297 := guess_max htop hUm (by rw [Int.mul_comm]; exact hqm) hr0
  have t1 : U.tdiv v1 = U / v1 := Int.tdiv_eq_ediv_of_nonneg hU0
  have t2 : IntKind.u64.wrap (U / v1) = U / v1 := by rw [IntKind.wrap_u64]; exact Int.emod_eq_of_lt hq0 (by omega)
  have t3 : U.tmod v1 = U % v1 := Int.tmod_eq_emod_of_nonneg hU0
  have HQM := hide hqm
  clear hqm
  go_quiet (fail)
  go_wp2
  replace f2 : (wz.drewN nq).cell? _ = _ := f2
  replace HQ : Hid (∃ q, wz.drewN nq = w.drewN q) := by
    obtain ⟨q, hq⟩ := HQ.out
    exact ⟨q + nq, by rw [hq]; simp [World.drewN]; omega⟩
  generalize wz.drewN nq = wl at f2 HQ ⊢
  go_loop [9, 10] (fun gv rv => ∃ gu rs : Int, gv = .int .u64 gu ∧ rv = .int .u64 rs ∧ 0 ≤ gu ∧ gu ≤ 4294967297 ∧ 0 ≤ rs ∧ rs < 4294967296 ∧ gu * v1 + rs = U ∧ (4294967296 ≤ gu + 1 ∨ U * 4294967296 + u2 < (gu + 1) * (v1 * 4294967296 + v2))) (fun gv _ => (intOf gv).toNat)
  case atStart => exact ⟨U / v1, U % v1, rfl, rfl, hq0, hq1, hr0, by omega, by rw [Int.mul_comm]; exact HQM.out, .inr (guess_start bv2.1 bu2.2 (by rw [Int.mul_comm]; exact HQM.out.symm) hr1 hq0)⟩
  case round =>
    obtain ⟨gu, rs, rfl, rfl, hg0, hg1, hs0, hs1, hgs, hgb⟩ := hrel
    have HGS := hide hgs
    have HGB := hide hgb
    have hor2 := or_join rs u2 hs0 hs1 bu2.1 bu2.2
    clear hgs hgb t1 t2 t3 hor1
    by_cases hbig : 4294967296 ≤ gu
    · have hne : (gu / 4294967296 != 0) = true := by rw [bne_iff_ne]; omega
      have HN : Hid ((gu - 1) * v1 + (rs + v1) = U) := by have h9 := HGS.out; show _ = _; rw [Int.sub_mul]; omega
      by_cases hbr : 4294967296 ≤ rs + v1
      · have hne2 : ((rs + v1) / 4294967296 != 0) = true := by rw [bne_iff_ne]; omega
        have hgl := guess_top htop hUm HGS.out hs0 hbr
        have HF := hide (guess_break bv2 bu2.1 HN.out hbr (by omega) (by omega))
        go_wp2
        go_ret
        exact ⟨gu - 1, rfl, by omega, HF.out, .inl (by omega), HQ.out⟩
      · have hne2 : ((rs + v1) / 4294967296 != 0) = false := by rw [bne_eq_false_iff_eq]; omega
        go_wp2
        go_round
        case rel => exact ⟨gu - 1, rs + v1, rfl, rfl, by omega, by omega, by omega, by omega, HN.out, .inl (by omega)⟩
        case measure => simp [intOf]; omega
    · have hne : (gu / 4294967296 != 0) = false := by rw [bne_eq_false_iff_eq]; omega
      have hmb := mul_bound (show 0 ≤ gu ∧ gu < 4294967296 by omega) bv2
      by_cases hgt : rs * 4294967296 + u2 < gu * v2
      · have hd : decide (rs * 4294967296 + u2 < gu * v2) = true := decide_eq_true hgt
        have hgu1 : 1 ≤ gu := by
          apply Classical.byContradiction
          intro hn
          have h0 : gu = 0 := by omega
          rw [h0, Int.zero_mul] at hgt
          omega
        have HN : Hid ((gu - 1) * v1 + (rs + v1) = U) := by have h9 := HGS.out; show _ = _; rw [Int.sub_mul]; omega
        have HB2 := hide (guess_gt HGS.out hgt)
        by_cases hbr : 4294967296 ≤ rs + v1
        · have hne2 : ((rs + v1) / 4294967296 != 0) = true := by rw [bne_iff_ne]; omega
          have HF := hide (guess_break bv2 bu2.1 HN.out hbr (by omega) (by omega))
          go_wp2
          go_ret
          exact ⟨gu - 1, rfl, by omega, HF.out, .inr (by rw [Int.sub_add_cancel]; exact HB2.out), HQ.out⟩
        · have hne2 : ((rs + v1) / 4294967296 != 0) = false := by rw [bne_eq_false_iff_eq]; omega
          go_wp2
          go_round
          case rel => exact ⟨gu - 1, rs + v1, rfl, rfl, by omega, by omega, by omega, by omega, HN.out, .inr (by rw [Int.sub_add_cancel]; exact HB2.out)⟩
          case measure => simp [intOf]; omega
      · have hd : decide (rs * 4294967296 + u2 < gu * v2) = false := decide_eq_false hgt
        have HF := hide (guess_le HGS.out (show gu * v2 ≤ rs * 4294967296 + u2 by omega))
        go_wp2
        go_ret
        exact ⟨gu, rfl, by omega, HF.out, HGB.out, HQ.out⟩
end Lm
end Go.Proofs.YtdiiankcjgoecaaDoor

namespace Go.Proofs.YtdiiankcjgoecaaDoor
namespace Lm
theorem val_top {zs : List Int} {n : Nat} (hl : zs.length = n + 1) : val zs = val (zs.take n) + pw n * zs.getD n 0 := by
  have e1 : zs = zs.take n ++ [zs.getD n 0] := by
    rw [← take_succ_getD zs n (by omega), List.take_of_length_le (by omega)]
  have e2 := val_append (zs.take n) [zs.getD n 0]
  rw [← e1, List.length_take, Nat.min_eq_left (by omega)] at e2
  rw [e2]
  simp [val]
theorem val_top2 {zs : List Int} {n : Nat} (hl : zs.length = n + 2) : val zs = val (zs.take n) + pw n * (zs.getD (n + 1) 0 * 4294967296 + zs.getD n 0) := by
  rw [val_top (n := n + 1) hl, val_top (zs := zs.take (n + 1)) (n := n) (by rw [List.length_take]; omega), List.take_take, Nat.min_eq_left (by omega)]
  have e : (zs.take (n + 1)).getD n 0 = zs.getD n 0 := by
    rw [List.getD_eq_getElem?_getD, List.getD_eq_getElem?_getD, List.getElem?_take, if_pos (by omega)]
  rw [e, pw, Int.mul_add, Int.mul_comm (zs.getD (n + 1) 0) 4294967296, ← Int.mul_assoc, Int.mul_comm (pw n) 4294967296]
  omega
theorem val_top3 {zs : List Int} {n : Nat} (hl : zs.length = n + 3) : val zs = val (zs.take n) + pw n * ((zs.getD (n + 2) 0 * 4294967296 + zs.getD (n + 1) 0) * 4294967296 + zs.getD n 0) := by
  rw [val_top (n := n + 2) hl, val_top2 (zs := zs.take (n + 2)) (n := n) (by rw [List.length_take]; omega), List.take_take, Nat.min_eq_left (by omega)]
  have e : ∀ i, i < n + 2 → (zs.take (n + 2)).getD i 0 = zs.getD i 0 := by
    intro i hi
    rw [List.getD_eq_getElem?_getD, List.getD_eq_getElem?_getD, List.getElem?_take, if_pos hi]
  rw [e (n + 1) (by omega), e n (by omega)]
  have e2 : pw (n + 2) = pw n * (4294967296 * 4294967296) := by
    simp only [pw]
    rw [Int.mul_comm (pw n), Int.mul_assoc]
  have e3 : pw n * ((zs.getD (n + 2) 0 * 4294967296 + zs.getD (n + 1) 0) * 4294967296 + zs.getD n 0) = pw n * (4294967296 * 4294967296) * zs.getD (n + 2) 0 + pw n * (zs.getD (n + 1) 0 * 4294967296 + zs.getD n 0) := by
    rw [Int.mul_assoc, ← Int.mul_add]
    congr 1
    omega
  rw [e2, e3]
  omega
theorem top_le {W Y : List Int} {n : Nat} (hW : Limb W) (hY : Limb Y) (h1 : W.length = n + 1) (h2 : Y.length = n + 1) (h : val W < val Y) : W.getD n 0 ≤ Y.getD n 0 := by
  apply Classical.byContradiction
  intro hn
  rw [val_top h1, val_top h2] at h
  have b1 := val_bounds (limb_take hW n)
  have b2 := val_bounds (limb_take hY n)
  rw [List.length_take, Nat.min_eq_left (by omega)] at b1 b2
  have hp := pw_pos n
  have e : pw n * (Y.getD n 0 + 1) ≤ pw n * W.getD n 0 := Int.mul_le_mul_of_nonneg_left (by omega) (by omega)
  rw [Int.mul_add] at e
  omega
theorem guess_near {ps Y : List Int} {n : Nat} {g P U : Int} (hp : Limb ps) (hy : Limb Y) (h1 : ps.length = n + 3) (h2 : Y.length = n + 2) (hP : val ps = P) (hU : val Y = U) (htop : 1 ≤ Y.getD (n + 1) 0) (hlt : P < 4294967296 * U) (hg : 0 ≤ g ∧ g < 4294967296)
    (hA : g * (Y.getD (n + 1) 0 * 4294967296 + Y.getD n 0) ≤ (ps.getD (n + 2) 0 * 4294967296 + ps.getD (n + 1) 0) * 4294967296 + ps.getD n 0)
    (hB : 4294967296 ≤ g + 1 ∨ (ps.getD (n + 2) 0 * 4294967296 + ps.getD (n + 1) 0) * 4294967296 + ps.getD n 0 < (g + 1) * (Y.getD (n + 1) 0 * 4294967296 + Y.getD n 0)) :
    P < (g + 1) * U ∧ (g - 1) * U ≤ P := by
  have eP := val_top3 h1
  have eU := val_top2 h2
  have bP := val_bounds (limb_take hp n)
  have bU := val_bounds (limb_take hy n)
  rw [List.length_take, Nat.min_eq_left (by omega)] at bP bU
  rw [hP] at eP
  rw [hU] at eU
  have hv2 := (limb_getD hy n).1
  generalize (ps.getD (n + 2) 0 * 4294967296 + ps.getD (n + 1) 0) * 4294967296 + ps.getD n 0 = P3 at *
  have hU2 : 4294967296 ≤ Y.getD (n + 1) 0 * 4294967296 + Y.getD n 0 := by omega
  generalize Y.getD (n + 1) 0 * 4294967296 + Y.getD n 0 = U2 at *
  generalize val (ps.take n) = Pl at *
  generalize val (Y.take n) = Ul at *
  have hp1 := pw_pos n
  have hUp : 4294967296 * pw n ≤ pw n * U2 := by
    have : pw n * 4294967296 ≤ pw n * U2 := Int.mul_le_mul_of_nonneg_left hU2 (by omega)
    omega
  constructor
  · rcases hB with hB | hB
    · have : 4294967296 * U ≤ (g + 1) * U := Int.mul_le_mul_of_nonneg_right (by omega) (by omega)
      omega
    · have e1 : pw n * (P3 + 1) ≤ pw n * ((g + 1) * U2) := Int.mul_le_mul_of_nonneg_left (by omega) (by omega)
      have e2 : (g + 1) * U = (g + 1) * Ul + pw n * ((g + 1) * U2) := by
        rw [eU, Int.mul_add, ← Int.mul_assoc (g + 1) (pw n), Int.mul_comm (g + 1) (pw n), Int.mul_assoc]
      have e3 : 0 ≤ (g + 1) * Ul := Int.mul_nonneg (by omega) bU.1
      rw [Int.mul_add] at e1
      omega
  · have e1 : pw n * (g * U2) ≤ pw n * P3 := Int.mul_le_mul_of_nonneg_left hA (by omega)
    have e2 : g * U = g * Ul + pw n * (g * U2) := by
      rw [eU, Int.mul_add, ← Int.mul_assoc g (pw n), Int.mul_comm g (pw n), Int.mul_assoc]
    have e3 : g * Ul ≤ 4294967295 * Ul := Int.mul_le_mul_of_nonneg_right (by omega) bU.1
    rw [Int.sub_mul]
    omega
theorem rest_near {P U g A b p A2 c : Int} (_hU : 0 < U) (_hp : U < p) (hlow : P < (g + 1) * U) (hhigh : (g - 1) * U ≤ P) (hA : 0 ≤ A ∧ A < p) (_hb : 0 ≤ b ∧ b ≤ 1) (h : A - p * b = P - g * U) :
    (b = 0 → 0 ≤ A ∧ A < U ∧ P = g * U + A) ∧ (b = 1 → 0 ≤ A2 ∧ A2 < p → 0 ≤ c ∧ c ≤ 1 → A2 + p * c = A + U → 0 ≤ A2 ∧ A2 < U ∧ P = (g - 1) * U + A2) := by
  rw [Int.add_mul] at hlow
  rw [Int.sub_mul] at hhigh ⊢
  constructor
  · intro hb0
    rw [hb0, Int.mul_zero] at h
    omega
  · intro hb1 hA2 hc hs
    rw [hb1, Int.mul_one] at h
    have hc01 : c = 0 ∨ c = 1 := by omega
    rcases hc01 with hc0 | hc0
    · rw [hc0, Int.mul_zero] at hs; omega
    · rw [hc0, Int.mul_one] at hs; omega
theorem part_lt {W : List Int} {x U : Int} (hx : x < 4294967296) (h : val W < U) : val (x :: W) < 4294967296 * U := by
  rw [val]
  omega
theorem long_step {lo W W' Q : List Int} {x q U T : Int} (hinv : val (lo ++ [x]) + pw (lo.length + 1) * val W + U * (pw (lo.length + 1) * val Q) = T) (hp : val (x :: W) = q * U + val W') :
    val lo + pw lo.length * val W' + U * (pw lo.length * val (q :: Q)) = T := by
  rw [val_append] at hinv
  have e1 : val [x] = x := by simp [val]
  rw [e1] at hinv
  rw [val] at hp ⊢
  rw [pw] at hinv
  generalize pw lo.length = p at *
  have e2 : p * (x + 4294967296 * val W) = p * (q * U + val W') := by rw [hp]
  have e3 : 4294967296 * p * val W = p * (4294967296 * val W) := by rw [Int.mul_comm 4294967296 p, Int.mul_assoc]
  have e4 : U * (p * (q + 4294967296 * val Q)) = p * (q * U) + U * (4294967296 * p * val Q) := by
    rw [Int.mul_add, Int.mul_add, Int.mul_comm 4294967296 p, Int.mul_assoc p 4294967296, ← Int.mul_assoc U p q, Int.mul_comm U p, Int.mul_assoc p U q, Int.mul_comm U q]
  rw [Int.mul_add, Int.mul_add] at e2
  omega
theorem top_zero {W : List Int} {n : Nat} (hW : Limb W) (hl : W.length = n + 1) (h : val W < pw n) : val (W.take n) = val W ∧ W.getD n 0 = 0 := by
  have e := val_top hl
  have b := val_bounds (limb_take hW n)
  have h0 := (limb_getD hW n).1
  have hp := pw_pos n
  have hz : W.getD n 0 = 0 := by
    apply Classical.byContradiction
    intro hn
    have : pw n * 1 ≤ pw n * W.getD n 0 := Int.mul_le_mul_of_nonneg_left (by omega) (by omega)
    omega
  rw [hz, Int.mul_zero] at e
  exact ⟨by omega, hz⟩
end Lm
end Go.Proofs.YtdiiankcjgoecaaDoor

namespace Go.Proofs.YtdiiankcjgoecaaDoor
namespace Lm
open Go.RowKit
structure Wr2 (w w' : World) (g h : Nat) (c d : Array Value) (e : TypeId) : Prop where
  os : w'.os = w.os
  tape : w'.tape = w.tape
  output : w'.output = w.output
  size : w'.heap.size = w.heap.size
  here : w'.heap[g]? = some (.cells c e (0, 0))
  there : w'.heap[h]? = some (.cells d e (0, 0))
  other : ∀ k, k ≠ g → k ≠ h → w'.heap[k]? = w.heap[k]?
theorem Wr2.left {w w' w'' : World} {g h : Nat} {c d c' : Array Value} {e : TypeId} (H : Wr2 w w' g h c d e) (hn : h ≠ g) (K : Wr w' w'' g c' e) : Wr2 w w'' g h c' d e :=
  ⟨K.os.trans H.os, K.tape.trans H.tape, K.output.trans H.output, K.size.trans H.size, K.here, (K.other h hn).trans H.there, fun k h1 h2 => (K.other k h1).trans (H.other k h1 h2)⟩
theorem Wr2.right {w w' w'' : World} {g h : Nat} {c d d' : Array Value} {e : TypeId} (H : Wr2 w w' g h c d e) (hn : g ≠ h) (K : Wr w' w'' h d' e) : Wr2 w w'' g h c d' e :=
  ⟨K.os.trans H.os, K.tape.trans H.tape, K.output.trans H.output, K.size.trans H.size, (K.other g hn).trans H.here, K.here, fun k h1 h2 => (K.other k h2).trans (H.other k h1 h2)⟩
theorem Wr2.drewN {w w' : World} {g h : Nat} {c d : Array Value} {e : TypeId} (H : Wr2 w w' g h c d e) (n : Nat) : Wr2 w (w'.drewN n) g h c d e := ⟨H.os, H.tape, H.output, H.size, H.here, H.there, H.other⟩
theorem Wr2.below {w w' : World} {g h : Nat} {c d : Array Value} {e : TypeId} (H : Wr2 w w' g h c d e) {B : Nat} (h1 : B ≤ g) (h2 : B ≤ h) : Below B w w' :=
  ⟨H.os, H.tape, H.output, by rw [H.size]; exact Nat.le_refl _, fun k hk => H.other k (by omega) (by omega)⟩
theorem sl_of_at {w : World} {g o n cap : Nat} {cur : Array Value} {zs : List Int} (hh : w.heap[g]? = some (.cells cur 124 (0, 0))) (ha : At cur .u32 o zs) (hz : Limb zs) (hl : zs.length = n) (h1 : n ≤ cap) (h2 : cap ≤ maxLen) : Sl w (.slice (some ⟨g, o, none⟩) n cap) zs :=
  ⟨_, cap, by rw [hl], by omega, h2, hz, .inr ⟨g, o, rfl, fun i hi => ha.cell hh i hi⟩⟩
theorem At.take {cur : Array Value} {k : IntKind} {o : Nat} {zs : List Int} (h : At cur k o zs) (n : Nat) : At cur k o (zs.take n) := by
  intro i hi
  rw [List.length_take] at hi
  rw [h i (by omega), List.getD_eq_getElem?_getD, List.getD_eq_getElem?_getD, List.getElem?_take, if_pos (by omega)]
structure Dv (w3 wr : World) (A q N m n : Nat) (U T : Int) (k : Nat) (lo W rest Q : List Int) (cur d : Array Value) : Prop where
  two : Wr2 w3 wr A q cur d 124
  csz : cur.size = N + 1
  dsz : d.size = m
  atc : At cur .u32 0 (lo ++ W ++ rest)
  atd : At d .u32 0 (List.replicate k 0 ++ Q)
  lol : lo.length = k
  wl : W.length = n + 2
  ql : k + Q.length = m
  lil : Limb lo
  liW : Limb W
  liQ : Limb Q
  low : val W < U
  inv : val lo + pw k * val W + U * (pw k * val Q) = T
theorem split_last {lo : List Int} {k : Nat} (h : lo.length = k + 1) : ∃ lo' x, lo = lo' ++ [x] ∧ lo'.length = k :=
  ⟨lo.take k, lo.getD k 0, by rw [← take_succ_getD lo k (by omega), List.take_of_length_le (by omega)], by rw [List.length_take]; omega⟩
theorem Dv.mid {w3 wr : World} {A q N m n : Nat} {U T : Int} {k : Nat} {lo W rest Q : List Int} {x : Int} {cur d : Array Value} (D : Dv w3 wr A q N m n U T (k + 1) (lo ++ [x]) W rest Q cur d) (hl : lo.length = k) : At cur .u32 k (x :: W) ∧ Limb (x :: W) := by
  have h1 := D.atc
  rw [show lo ++ [x] ++ W ++ rest = lo ++ (x :: W) ++ rest by simp] at h1
  have h2 := at_mid h1
  rw [hl] at h2
  have h3 := D.lil
  rw [limb_append] at h3
  exact ⟨h2, limb_cons.2 ⟨(limb_cons.1 h3.2).1, D.liW⟩⟩
theorem set_zeros (k : Nat) (Q : List Int) (g : Int) : (List.replicate (k + 1) (0 : Int) ++ Q).set k g = List.replicate k 0 ++ g :: Q := by
  have h := set_cons (List.replicate (k + 1) (0 : Int)) Q k g (by simp)
  rw [List.take_of_length_le (by simp), List.take_replicate, Nat.min_eq_left (by omega)] at h
  exact h
theorem Dv.step {w3 wr w5 : World} {A q N m n : Nat} {U T : Int} {k : Nat} {lo W rest Q qs : List Int} {x g : Int} {cur d cur' : Array Value} (D : Dv w3 wr A q N m n U T (k + 1) (lo ++ [x]) W rest Q cur d) (hl : lo.length = k) (hn : A ≠ q)
    (two : Wr2 w3 w5 A q cur' d 124) (hcs : cur'.size = cur.size) (hat : At cur' .u32 k qs) (hout : ∀ i, i < k ∨ k + (n + 2 + 1) ≤ i → cur'[i]? = cur[i]?) (hq : Limb qs) (hql : qs.length = n + 2 + 1) (hU : U ≤ pw (n + 2)) (hlt : val qs < U) (hv : val (x :: W) = g * U + val qs) (hg : 0 ≤ g ∧ g < 4294967296) :
    Dv w3 (w5.setCell ⟨q, k, none⟩ (.int .u32 g)) A q N m n U T k lo (qs.take (n + 2)) (qs.drop (n + 2) ++ rest) (g :: Q) cur' (d.setIfInBounds k (.int .u32 g)) := by
  have htz := top_zero hq hql (by omega)
  have h3 := D.lil
  rw [limb_append] at h3
  have hinv := D.inv
  rw [← hl] at hinv
  have hat1 : At cur .u32 0 (lo ++ (x :: W) ++ rest) := by
    have := D.atc
    rwa [show lo ++ [x] ++ W ++ rest = lo ++ (x :: W) ++ rest by simp] at this
  have hat2 := at_window hat1 (by rw [hl]; exact hat) (by have := D.wl; simp; omega) (by
    have e : (x :: W).length = n + 2 + 1 := by have := D.wl; simp; omega
    rw [hl, e]; exact hout)
  refine ⟨two.right hn ((Wr.refl two.there).set k _), by rw [hcs]; exact D.csz, by simpa using D.dsz, ?_, ?_, hl, by rw [List.length_take]; omega, by have := D.ql; simp; omega, h3.1, limb_take hq _, limb_cons.2 ⟨hg, D.liQ⟩, by rw [htz.1]; exact hlt, ?_⟩
  · rw [List.append_assoc, ← List.append_assoc (qs.take (n + 2)), List.take_append_drop, ← List.append_assoc]
    exact hat2
  · rw [← set_zeros]
    have := D.atd.set k g
    rwa [Nat.zero_add] at this
  · rw [htz.1]
    have := long_step (W' := qs) (q := g) hinv hv
    rwa [hl] at this
theorem long_start {O : List Int} {m n : Nat} {P : Int} (hO : Limb O) (hm : m ≤ O.length) (hv : val O < pw m * (pw (n + 1) * P)) : val (O.drop m) < pw (n + 1) * P := by
  have h1 := val_append (O.take m) (O.drop m)
  rw [List.take_append_drop, List.length_take, Nat.min_eq_left hm] at h1
  have h2 := (val_bounds (limb_take hO m)).1
  apply Classical.byContradiction
  intro hn
  have h3 : pw m * (pw (n + 1) * P) ≤ pw m * val (O.drop m) := Int.mul_le_mul_of_nonneg_left (by omega) (by have := pw_pos m; omega)
  omega
theorem long_end {X Y Q W P : Int} (hP : 0 < P) (hY : 0 < Y) (h : W + Y * P * Q = X * P) (h0 : 0 ≤ W) (h1 : W < Y * P) : X / Y = Q ∧ X % Y = W / P := by
  have e1 : W = (X - Q * Y) * P := by
    have : Y * P * Q = Q * Y * P := by rw [Int.mul_comm (Y * P), Int.mul_assoc]
    rw [Int.sub_mul]
    omega
  have e2 : W / P = X - Q * Y := by rw [e1]; exact Int.mul_ediv_cancel _ (by omega)
  rw [e2]
  obtain ⟨R, hR⟩ : ∃ R, R = X - Q * Y := ⟨_, rfl⟩
  rw [← hR] at e1 ⊢
  have hR0 : 0 ≤ R := by
    apply Classical.byContradiction
    intro hn
    have : R * P ≤ -1 * P := Int.mul_le_mul_of_nonneg_right (by omega) (by omega)
    omega
  have hR1 : R < Y := by
    apply Classical.byContradiction
    intro hn
    have : Y * P ≤ R * P := Int.mul_le_mul_of_nonneg_right (by omega) (by omega)
    omega
  exact div_of hY (by omega) hR0 hR1
theorem norm_val {v : Int} {n l s : Nat} (hb : IsBits v (32 * (n + 1) + l)) (hl : 0 < l) (hs : s + l = 32) : v * p2 s < pw (n + 2) ∧ pw (n + 1) * 2147483648 ≤ v * p2 s := by
  have hp := p2_pos s
  obtain ⟨h1, h2⟩ := hb
  have h3 : p2 (32 * (n + 1) + l - 1) ≤ v := by rcases h2 with h0 | h0 <;> omega
  constructor
  · have : v * p2 s < p2 (32 * (n + 1) + l) * p2 s := Int.mul_lt_mul_of_pos_right h1 (by omega)
    rw [← p2_add, show 32 * (n + 1) + l + s = 32 * (n + 2) by omega, ← pw_p2] at this
    exact this
  · have : p2 (32 * (n + 1) + l - 1) * p2 s ≤ v * p2 s := Int.mul_le_mul_of_nonneg_right h3 (by omega)
    rw [← p2_add, show 32 * (n + 1) + l - 1 + s = 32 * (n + 1) + 31 by omega, p2_add, ← pw_p2, show p2 31 = 2147483648 from by decide] at this
    exact this
theorem norm_top {Y : List Int} {n : Nat} (hY : Limb Y) (hl : Y.length = n + 2) (h : pw (n + 1) * 2147483648 ≤ val Y) : 2147483648 ≤ Y.getD (n + 1) 0 := by
  have e := val_top (n := n + 1) hl
  have b := val_bounds (limb_take hY (n + 1))
  rw [List.length_take, Nat.min_eq_left (by omega)] at b
  apply Classical.byContradiction
  intro hn
  have : pw (n + 1) * (Y.getD (n + 1) 0 + 1) ≤ pw (n + 1) * 2147483648 := Int.mul_le_mul_of_nonneg_left (by omega) (by have := pw_pos (n + 1); omega)
  rw [Int.mul_add] at this
  omega
end Lm
end Go.Proofs.YtdiiankcjgoecaaDoor

namespace Go.Proofs.YtdiiankcjgoecaaDoor
namespace Lm
open Go.RowKit
set_option maxRecDepth 20000 in
set_option maxHeartbeats 2000000 in
theorem divideLong_any (w : World) (a1 a2 : Option Addr) (n1 n2 c1 c2 : Nat) (xs ys : List Int) (hx : Sl w (.slice a1 n1 c1) xs) (hy : Sl w (.slice a2 n2 c2) ys) (hm1 : xs.length ≤ 500000) (h2 : 2 ≤ ys.length) (hle : ys.length ≤ xs.length) (hcan : Canon ys) :
    Calls Tryd.prog 106 #[.slice a1 n1 c1, .slice a2 n2 c2] w fun e w' => ∃ v1 v2, e = .returned (.tuple #[v1, v2]) ∧ Is w.heap.size w' v1 (val xs / val ys) ∧ Is w.heap.size w' v2 (val xs % val ys) ∧ Sep v1 v2 ∧ Below w.heap.size w w' := by
  obtain ⟨rfl, x1, x2, x3⟩ := hx.parts
  obtain ⟨hyl, y1, y2, y3⟩ := hy.parts
  obtain ⟨n, hn⟩ : ∃ n, ys.length = n + 2 := ⟨ys.length - 2, by omega⟩
  have e2 : n2 = n + 2 := by omega
  subst e2
  obtain ⟨b, off, rfl, hc⟩ := hy.cells (by omega)
  have hcell := hc (n + 1) (by omega)
  have hlb := limb_getD y3 (n + 1)
  have hpos : 0 < ys.getD (n + 1) 0 := by
    have : ys.getD (n + 1) 0 ≠ 0 := fun h0 => by
      have := tl_le_of_zero (zs := ys) (n := n + 1) (by have := tl_le ys; omega) h0
      have := hcan.2
      omega
    omega
  have hbits := bitLen_bits (ys.getD (n + 1) 0).toNat (by omega)
  rw [Int.toNat_of_nonneg hlb.1] at hbits
  have hl32 : Lib.bitLen (ys.getD (n + 1) 0).toNat ≤ 32 := Lib.bitLen_le _ 32 (by omega) (by omega)
  have hl0 := isBits_pos hbits hpos
  obtain ⟨s, hs⟩ : ∃ s : Nat, s + Lib.bitLen (ys.getD (n + 1) 0).toNat = 32 := ⟨32 - Lib.bitLen (ys.getD (n + 1) 0).toNat, by omega⟩
  have NV := hide (norm_val (bits_top hcan hn hbits hpos) hl0 hs)
  have kl : Hid (∀ w : World, Calls Tryd.prog 120 #[.int .u32 (ys.getD (n + 1) 0)] w fun e w' => e = .returned (.int .i64 (s : Nat)) ∧ w' = w) := by
    intro w
    have h9 := lead_any (ys.getD (n + 1) 0) w hlb.1 hlb.2
    rwa [show (32 - ((Lib.bitLen (ys.getD (n + 1) 0).toNat : Nat) : Int)) = (s : Nat) by omega] at h9
  have hs31 : s ≤ 31 := by omega
  have YL := hide (show pw (n + 1) ≤ val ys by
    have h9 := canon_low hcan (by intro e; subst e; simp at h2)
    rwa [hn] at h9)
  have HN := hide hn
  have X3 := hide x3
  have hxn : n + 2 ≤ xs.length := by omega
  obtain ⟨m, hm2, hm3⟩ : ∃ m, m + n + 1 ≤ xs.length ∧ xs.length ≤ m + n + 1 := ⟨xs.length - (n + 1), by omega, by omega⟩
  generalize ys.getD (n + 1) 0 = top at hcell hlb hpos kl
  obtain ⟨i0, hi, hz0, hz1, hz2⟩ := info_parts info32
  clear hs hl0 hl32 hbits hc y3 hyl hcan h2 hle hn x3
  go_enter Tryd.func106, Tryd.ntmps106
  go_wp2_with fail
  refine (kl.out _).mono ?_
  rintro e w' ⟨rfl, rfl⟩
  go_wp2_with fail
  refine (moveUp_any _ _ _ _ xs hx s hs31 (by omega)).mono ?_
  rintro e w1 ⟨cur0, O, rfl, hO, hOl, hOv, hOh, hOs, hOa, hb1⟩
  have hy1 := hy.below hb1
  have O1 := hide hO
  have O2 := hide hOl
  have O3 := hide hOv
  have O4 := hide hOh
  have O5 := hide hOs
  have O6 := hide hOa
  clear hO hOl hOv hOh hOs hOa
  go_wp2_with fail
  refine (moveUp_any _ _ _ _ ys hy1 s hs31 (by have := HN.out; omega)).mono ?_
  rintro e w2 ⟨curY, Y1, rfl, hY, hYl, hYv, hYh, hYs, hYa, hb2⟩
  have Q1 := hide hY
  have Q2 := hide hYl
  have Q3 := hide hYv
  have Q4 := hide hYh
  have Q5 := hide hYs
  have Q6 := hide hYa
  clear hY hYl hYv hYh hYs hYa
  go_wp2_with (refine wpList_make_full _ rfl (.tmp 34) (.tmp 34) 22 rfl w2.heap.size 124 i0 (.int .u32 0) 1 Tryd.underlying22 hi hz0 hz1 .i64 .i64 _ _ m rfl rfl (by omega) (by omega) (by rw [hz2]; omega) (by unfold maxLen; omega) (Nat.le_refl _) ?hK)
  case hK =>
    intro w3 hown hgrow
    obtain ⟨_, d0, hh, hds, hat⟩ := block_of_made hown
    have hb3 : Below w2.heap.size w2 w3 := (Below.refl w2.heap.size w2).grown hgrow (Nat.le_refl _) (by simp)
    have s1 := lt_of_heap O4.out
    have s2 := lt_of_heap Q4.out
    have s3 := lt_of_heap hh
    have hU : Hid (val (Y1.take (n + 2)) = val ys * p2 s ∧ (Y1.take (n + 2)).length = n + 2 ∧ Limb (Y1.take (n + 2)) ∧ At curY .u32 0 (Y1.take (n + 2))) := by
      have h9 := top_zero Q1.out Q2.out (by rw [Q3.out]; exact NV.out.1)
      exact ⟨by rw [h9.1, Q3.out], by rw [List.length_take, Q2.out]; omega, limb_take Q1.out _, Q6.out.take _⟩
    generalize Y1.take (n + 2) = Y at hU
    have htop : Hid (2147483648 ≤ Y.getD (n + 1) 0) := norm_top hU.out.2.2.1 hU.out.2.1 (by rw [hU.out.1]; exact NV.out.2)
    have U3 : Hid (w3.heap[w1.heap.size]? = some (.cells curY 124 (0, 0))) := (hb3.block _ s2).trans Q4.out
    have hne : w'.heap.size ≠ w2.heap.size := by omega
    have hne2 : w1.heap.size ≠ w2.heap.size := by omega
    have hne3 : w1.heap.size ≠ w'.heap.size := by omega
    have hstart : Hid (Dv w3 w3 w'.heap.size w2.heap.size xs.length m n (val ys * p2 s) (val xs * p2 s) m (O.take m) (O.drop m) [] [] cur0 d0) := by
      have hp := p2_pos s
      have e9 : w3.heap[w'.heap.size]? = some (.cells cur0 124 (0, 0)) := (hb3.block _ (by omega)).trans ((hb2.block _ s1).trans O4.out)
      refine ⟨⟨rfl, rfl, rfl, rfl, e9, hh, fun _ _ _ => rfl⟩, O5.out, hds, ?_, ?_, ?_, ?_, by simp, limb_take O1.out _, limb_drop O1.out _, limb_nil, ?_, ?_⟩
      · rw [List.take_append_drop, List.append_nil]; exact O6.out
      · rw [List.append_nil]; exact hat
      · have := O2.out; rw [List.length_take]; omega
      · have := O2.out; rw [List.length_drop]; omega
      · have h8 : val xs * p2 s < pw xs.length * p2 s := Int.mul_lt_mul_of_pos_right (val_bounds X3.out).2 (by omega)
        rw [show xs.length = m + (n + 1) by omega, pw_add, Int.mul_assoc] at h8
        have h9 := long_start (m := m) (n := n) (P := p2 s) O1.out (by have := O2.out; omega) (by rw [O3.out]; exact h8)
        have h10 : pw (n + 1) * p2 s ≤ val ys * p2 s := Int.mul_le_mul_of_nonneg_right YL.out (by omega)
        omega
      · have h9 := val_append (O.take m) (O.drop m)
        rw [List.take_append_drop, List.length_take, Nat.min_eq_left (by have := O2.out; omega), O3.out] at h9
        rw [h9]
        simp [val]
    clear hown hgrow hh hds hat
    go_wp2
    go_loopw [10] (fun i wr => ∃ (k : Nat) (lo W rest Q : List Int) (cur d : Array Value), k ≤ m ∧ i = .int .i64 ((k : Int) - 1) ∧ Dv w3 wr w'.heap.size w2.heap.size xs.length m n (val ys * p2 s) (val xs * p2 s) k lo W rest Q cur d) (fun i _ => (intOf i + 1).toNat)
    case atStart => exact ⟨m, _, _, _, _, _, _, Nat.le_refl _, by first | rfl | (congr 1; omega), hstart.out⟩
    case round =>
      obtain ⟨k, lo, W, rest, Q, cur, d, hk, rfl, hD⟩ := hrel
      have D := hide hD
      clear hD
      cases k with
      | zero =>
        have hlo : lo = [] := List.eq_nil_of_length_eq_zero D.out.lol
        subst hlo
        have hatQ : At d .u32 0 Q := by simpa using D.out.atd
        have hatW : At cur .u32 0 W := at_mid (A := []) D.out.atc
        have hQm : Q.length = m := by have := D.out.ql; omega
        have hp := p2_pos s
        have hend : val xs / val ys = val Q ∧ val xs % val ys = val W / p2 s := by
          have h9 := D.out.inv
          simp only [val, pw, Int.one_mul, Int.zero_add] at h9
          have h8 := pw_pos (n + 1)
          exact long_end (by omega) (by have := YL.out; omega) h9 (val_bounds D.out.liW).1 D.out.low
        have hbel : Below w'.heap.size w' wr := hb1.trans ((hb2.mono hb1.size).trans ((hb3.mono (by omega)).trans (D.out.two.below (by omega) (by omega))))
        have how : Ow w'.heap.size wr (.slice (some ⟨w2.heap.size, 0, none⟩) m m) Q :=
          ⟨_, m, by rw [hQm], by omega, by unfold maxLen; omega, D.out.liQ, .inr ⟨_, 0, _, rfl, by omega, D.out.two.there, by rw [D.out.dsz]; omega, hatQ⟩⟩
        have his := hide (how.is_cut (x := val xs / val ys) hend.1.symm)
        have hWs : Sl wr (.slice (some ⟨w'.heap.size, 0, none⟩) (n + 2) (xs.length + 1)) W := sl_of_at D.out.two.here hatW D.out.liW D.out.wl (by omega) (by unfold maxLen; omega)
        have HE := hide hend.2
        have hWl : W.length ≤ 1000000 := by have := D.out.wl; omega
        have ht := tl_le Q
        have htm : tl Q ≤ m := by omega
        have HO := hide how
        clear hend hatQ hatW hQm how ht
        go_wp2
        go_region_with (first
          | (go_at_call 88; refine (cut_any _ _ _ _ Q (HO.out.sl.below (by repeat (first | exact Below.refl _ _ | refine Below.drew ?_)))).mono ?_; rintro e wc ⟨rfl, rfl⟩)
          | (go_at_call 125; refine (moveDown_any _ _ _ _ W (hWs.below (by repeat (first | exact Below.refl _ _ | refine Below.drew ?_))) s hs31 hWl).mono ?_; rintro e wd ⟨vd, rfl, hi, hbd⟩))
        all_goals
          have hbd' := (show Below wr.heap.size wr _ by repeat (first | exact Below.refl _ _ | refine Below.drew ?_)).trans hbd
          have his' := his.out.below hbd'
          have hi' := hi.mono (B' := wr.heap.size) (by first | exact Nat.le_refl _ | simp)
          clear hbd hi
          go_wp2
          go_ret2
          obtain ⟨q1, q2, q3, q4⟩ := his.out
          obtain ⟨s1, s2, s3, s4⟩ := hi'
          exact ⟨_, _, rfl, his', ⟨s1, s2.mono hbel.size, s3, by rw [s4, HE.out]⟩, sep_of q2 s2 (Nat.le_refl _), hbel.trans (hbd'.mono hbel.size)⟩
      | succ k =>
        obtain ⟨lo', x, hlo, hll⟩ := split_last D.out.lol
        subst hlo
        have LL := hide hll
        have MD := hide (D.out.mid hll)
        clear hll
        have hxW : (x :: W).length = n + 2 + 1 := by have := D.out.wl; simp; omega
        have hPU : val (x :: W) < 4294967296 * (val ys * p2 s) := part_lt ((limb_cons.1 MD.out.2).1.2) D.out.low
        have e0 : k + (n + 2) + 1 - k = n + 2 + 1 := by omega
        have hYsl : ∀ wq cq, Wr wr wq w'.heap.size cq 124 → Sl wq (.slice (some ⟨w1.heap.size, 0, none⟩) (n + 2) (n + 2 + 1)) Y := by
          intro wq cq hq
          refine sl_of_at (cur := curY) ?_ hU.out.2.2.2 hU.out.2.2.1 hU.out.2.1 (by omega) (by unfold maxLen; omega)
          rw [hq.other _ hne3, D.out.two.other _ hne3 hne2]
          exact U3.out
        have hup : (x :: W).getD (n + 2) 0 ≤ Y.getD (n + 1) 0 := by
          have h9 := top_le (n := n + 1) D.out.liW hU.out.2.2.1 D.out.wl hU.out.2.1 (by rw [hU.out.1]; exact D.out.low)
          simpa using h9
        have kg : Hid (Calls Tryd.prog 122 #[.slice (some ⟨w'.heap.size, k, none⟩) (k + (n + 2) + 1 - k) (xs.length + 1 - k), .slice (some ⟨w1.heap.size, 0, none⟩) (n + 2) (n + 2 + 1)] wr fun e wz => ∃ g : Int, e = .returned (.int .u32 g) ∧ (0 ≤ g ∧ g < 4294967296) ∧ (val (x :: W) < (g + 1) * (val ys * p2 s) ∧ (g - 1) * (val ys * p2 s) ≤ val (x :: W)) ∧ ∃ q, wz = wr.drewN q) := by
          rw [e0]
          refine (guess_any wr _ _ n _ _ (x :: W) Y (sl_of_at D.out.two.here MD.out.1 MD.out.2 hxW (by omega) (by unfold maxLen; omega)) (hYsl _ _ (Wr.refl D.out.two.here)) htop.out hup).mono ?_
          rintro e wq ⟨g, rfl, hg, hA, hB, hq⟩
          exact ⟨g, rfl, hg, guess_near MD.out.2 hU.out.2.2.1 hxW hU.out.2.1 rfl hU.out.1 (by have := htop.out; omega) hPU hg hA hB, hq⟩
        have kt : Hid (∀ q g, 0 ≤ g ∧ g < 4294967296 → Calls Tryd.prog 123 #[.slice (some ⟨w'.heap.size, k, none⟩) (k + (n + 2) + 1 - k) (xs.length + 1 - k), .slice (some ⟨w1.heap.size, 0, none⟩) (n + 2) (n + 2 + 1), .int .u32 g] (wr.drewN q) fun e wz => ∃ qs b cur', e = .returned (.bool (b != 0)) ∧ (0 ≤ b ∧ b ≤ 1) ∧ val qs - pw (n + 2 + 1) * b = val (x :: W) - g * val Y ∧ Limb qs ∧ qs.length = n + 2 + 1 ∧ Wr (wr.drewN q) wz w'.heap.size cur' 124 ∧ cur'.size = cur.size ∧ At cur' .u32 k qs ∧ (∀ i, i < k ∨ k + (n + 2 + 1) ≤ i → cur'[i]? = cur[i]?)) := by
          intro q g hg
          rw [e0]
          exact takeTimes_any (wr.drewN q) _ k (n + 2) _ _ cur (x :: W) Y _ g hg (D.out.two.drewN q).here MD.out.1 MD.out.2 hxW (by omega) (fun wq cq hq => hYsl wq cq ⟨hq.os, hq.tape, hq.output, hq.size, hq.here, hq.other⟩)
        have kb : Hid (∀ (wq : World) (cq : Array Value) (ps : List Int), Wr wr wq w'.heap.size cq 124 → At cq .u32 k ps → Limb ps → ps.length = n + 2 + 1 → Calls Tryd.prog 124 #[.slice (some ⟨w'.heap.size, k, none⟩) (k + (n + 2) + 1 - k) (xs.length + 1 - k), .slice (some ⟨w1.heap.size, 0, none⟩) (n + 2) (n + 2 + 1)] wq fun e wz => ∃ qs c cur', e = .returned (.tuple #[]) ∧ (0 ≤ c ∧ c ≤ 1) ∧ val qs + pw (n + 2 + 1) * c = val ps + val Y ∧ Limb qs ∧ qs.length = n + 2 + 1 ∧ Wr wq wz w'.heap.size cur' 124 ∧ cur'.size = cq.size ∧ At cur' .u32 k qs ∧ (∀ i, i < k ∨ k + (n + 2 + 1) ≤ i → cur'[i]? = cq[i]?)) := by
          intro wq cq ps hq ha hp hl
          rw [e0]
          exact addBack_any wq _ k (n + 2) _ _ cq ps Y _ hq.here ha hp hl (by omega) (fun wz cz hz => hYsl wz cz (hq.trans hz))
        clear hxW hPU e0 hYsl hup
        go_wp2_with fail
        refine (kg.out).mono ?_
        rintro e w4 ⟨g, rfl, hg, hnear, q1, rfl⟩
        have NR := hide hnear
        clear hnear
        go_wp2_with fail
        refine (kt.out q1 g hg).mono ?_
        rintro e w5 ⟨qs, bo, cur', rfl, hbo, hv, hq, hql, hwr, hcs, hat, hout⟩
        have V1 := hide hv
        have V2 := hide hq
        have V3 := hide hql
        have V4 := hide hwr
        have V5 := hide hcs
        have V6 := hide hat
        have V7 := hide hout
        clear hv hq hql hwr hcs hat hout
        have hqb : Hid (0 ≤ val qs ∧ val qs < pw (n + 2 + 1)) := by
          have h9 := val_bounds V2.out
          rwa [V3.out] at h9
        have hU0 : Hid (0 < val ys * p2 s ∧ val ys * p2 s < pw (n + 2 + 1) ∧ val ys * p2 s ≤ pw (n + 2)) := by
          have h9 := NV.out
          have h8 := pw_mono (m := n + 2) (n := n + 2 + 1) (by omega)
          have h7 := pw_pos (n + 1)
          exact ⟨by omega, by omega, by omega⟩
        have V8 : Hid (val qs - pw (n + 2 + 1) * bo = val (x :: W) - g * (val ys * p2 s)) := by rw [← hU.out.1]; exact V1.out
        by_cases hb0 : bo = 0
        · have two := hide ((D.out.two.drewN q1).left hne.symm V4.out)
          have near := (rest_near (A2 := 0) (c := 0) hU0.out.1 hU0.out.2.1 NR.out.1 NR.out.2 hqb.out hbo V8.out).1 hb0
          have ST := hide (D.out.step LL.out hne two.out V5.out V6.out V7.out V2.out V3.out hU0.out.2.2 near.2.1 near.2.2 hg)
          have hcq := D.out.atd.cell two.out.there k (by have := D.out.ql; simp; omega)
          rw [Nat.zero_add] at hcq
          generalize (List.replicate (k + 1) (0 : Int) ++ Q).getD k 0 = old at hcq
          have hfree := (Wr.refl two.out.there).free k
          clear near
          subst hb0
          go_wp2
          go_roundw
          case rel => exact ⟨k, _, _, _, _, _, _, by omega, by first | rfl | go_num, ST.out⟩
          case measure => simp [intOf]
        · have hb1' : bo = 1 := by omega
          subst hb1'
          have hg1 : 1 ≤ g := by
            apply Classical.byContradiction
            intro hn
            have h9 := V8.out
            have h8 := hqb.out
            have h7 := (val_bounds MD.out.2).1
            rw [show g = 0 by omega, Int.zero_mul, Int.mul_one] at h9
            omega
          have KB := hide (kb.out w5 cur' qs ⟨V4.out.os, V4.out.tape, V4.out.output, V4.out.size, V4.out.here, V4.out.other⟩ V6.out V2.out V3.out)
          go_wp2_with fail
          refine (KB.out).mono ?_
          rintro e w6 ⟨q2, c, cur2, rfl, hc, hv, hq, hql, hwr, hcs, hat, hout⟩
          have hq2 : 0 ≤ val q2 ∧ val q2 < pw (n + 2 + 1) := by
            have h9 := val_bounds hq
            rwa [hql] at h9
          have two := hide (((D.out.two.drewN q1).left hne.symm V4.out).left hne.symm hwr)
          have near := (rest_near (A2 := val q2) (c := c) hU0.out.1 hU0.out.2.1 NR.out.1 NR.out.2 hqb.out hbo V8.out).2 rfl hq2 hc (by rw [← hU.out.1]; exact hv)
          have ST := hide (D.out.step LL.out hne two.out (hcs.trans V5.out) hat (fun i hi => (hout i hi).trans (V7.out i hi)) hq hql hU0.out.2.2 near.2.1 near.2.2 (by omega))
          have hcq := D.out.atd.cell two.out.there k (by have := D.out.ql; simp; omega)
          rw [Nat.zero_add] at hcq
          generalize (List.replicate (k + 1) (0 : Int) ++ Q).getD k 0 = old at hcq
          have hfree := (Wr.refl two.out.there).free k
          clear near hq2 hv hq hql hwr hcs hat hout
          go_wp2
          go_roundw
          case rel => exact ⟨k, _, _, _, _, _, _, by omega, by first | rfl | go_num, ST.out⟩
          case measure => simp [intOf]
end Lm
end Go.Proofs.YtdiiankcjgoecaaDoor

namespace Go.Proofs.YtdiiankcjgoecaaDoor
namespace Lm
open Go.RowKit
set_option maxRecDepth 20000 in
set_option maxHeartbeats 1000000 in
theorem divmod_long (w : World) (a1 a2 : Option Addr) (n1 n2 c1 c2 : Nat) (xs ys : List Int) (hx : Sl w (.slice a1 n1 c1) xs) (hy : Sl w (.slice a2 n2 c2) ys) (hm1 : xs.length ≤ 500000) (hle : tl ys ≤ tl xs) (h2 : 2 ≤ tl ys) :
    Calls Tryd.prog 80 #[.slice a1 n1 c1, .slice a2 n2 c2] w fun e w' => ∃ v1 v2, e = .returned (.tuple #[v1, v2, .bool true]) ∧ Is w.heap.size w' v1 (val xs / val ys) ∧ Is w.heap.size w' v2 (val xs % val ys) ∧ Sep v1 v2 ∧ Below w.heap.size w w' := by
  obtain ⟨rfl, h1, _, h3⟩ := hx.parts
  obtain ⟨rfl, g1, _, g3⟩ := hy.parts
  have t1 := tl_le xs
  have t2 := tl_le ys
  have kd := divideLong_any w a1 a2 (tl xs) (tl ys) c1 c2 _ _ hx.cut hy.cut (by rw [List.length_take]; omega) (by rw [List.length_take]; omega) (by rw [List.length_take, List.length_take]; omega) (canon_trim g3)
  rw [val_take_tl, val_take_tl] at kd
  have KD := hide kd
  clear kd h3 g3
  have hne : (((tl ys : Nat) : Int) == 0) = false := by simp; omega
  have hne1 : (((tl ys : Nat) : Int) == 1) = false := by simp; omega
  go_enter Tryd.func80, Tryd.ntmps80
  go_wp2_with fail
  refine (cut_any w a1 _ c1 xs hx).mono ?_
  rintro e w' ⟨rfl, rfl⟩
  go_wp2_with fail
  refine (cut_any _ a2 _ c2 ys hy).mono ?_
  rintro e w' ⟨rfl, rfl⟩
  go_wp2_with fail
  refine (KD.out).mono ?_
  rintro e w1 ⟨v1, v2, rfl, hi1, hi2, hsep, hb⟩
  go_wp2
  go_ret3
  exact ⟨_, _, rfl, hi1, hi2, hsep, hb⟩
theorem divmod_any (w : World) (a1 a2 : Option Addr) (n1 n2 c1 c2 : Nat) (xs ys : List Int) (hx : Sl w (.slice a1 n1 c1) xs) (hy : Sl w (.slice a2 n2 c2) ys) (hm1 : xs.length ≤ 500000) (h0 : val ys ≠ 0) :
    Calls Tryd.prog 80 #[.slice a1 n1 c1, .slice a2 n2 c2] w fun e w' => ∃ v1 v2, e = .returned (.tuple #[v1, v2, .bool true]) ∧ Is w.heap.size w' v1 (val xs / val ys) ∧ Is w.heap.size w' v2 (val xs % val ys) ∧ Sep v1 v2 ∧ Below w.heap.size w w' := by
  have hz : 0 < tl ys := by
    apply Classical.byContradiction
    intro hn
    exact h0 (tl_zero (by omega))
  by_cases h1 : tl xs < tl ys
  · exact divmod_less w a1 a2 n1 n2 c1 c2 xs ys hx hy (by omega) h1
  · by_cases h2 : tl ys = 1
    · exact divmod_short w a1 a2 n1 n2 c1 c2 xs ys hx hy (by omega) (by omega) h2
    · exact divmod_long w a1 a2 n1 n2 c1 c2 xs ys hx hy hm1 (by omega) (by omega)
theorem divmod_none (w : World) (a1 a2 : Option Addr) (n1 n2 c1 c2 : Nat) (xs ys : List Int) (hx : Sl w (.slice a1 n1 c1) xs) (hy : Sl w (.slice a2 n2 c2) ys) (h0 : val ys = 0) :
    Calls Tryd.prog 80 #[.slice a1 n1 c1, .slice a2 n2 c2] w fun e w' => e = .returned (.tuple #[.slice none 0 0, .slice none 0 0, .bool false]) ∧ Below w.heap.size w w' := by
  refine divmod_zero w a1 a2 n1 n2 c1 c2 xs ys hx hy ?_
  apply Classical.byContradiction
  intro hn
  have := val_pos_tl hy.parts.2.2.2 (by omega)
  omega
theorem divmod_g (w : World) (a1 a2 : Option Addr) (n1 n2 c1 c2 : Nat) (xs ys : List Int) (hx : Sl w (.slice a1 n1 c1) xs) (hy : Sl w (.slice a2 n2 c2) ys) (hm1 : xs.length ≤ 500000) (h0 : val ys ≠ 0) :
    Calls Tryd.prog 80 #[.slice a1 n1 c1, .slice a2 n2 c2] w fun e w' => ∃ ao cap rs bo dap ss, e = .returned (.tuple #[.slice ao rs.length cap, .slice bo ss.length dap, .bool true]) ∧ Got w' ao cap rs (val xs / val ys) ∧ Got w' bo dap ss (val xs % val ys) ∧ rs.length ≤ xs.length ∧ ss.length ≤ ys.length ∧ Below w.heap.size w w' := by
  refine (divmod_any w a1 a2 n1 n2 c1 c2 xs ys hx hy hm1 h0).mono ?_
  rintro e w' ⟨v1, v2, rfl, hi1, hi2, _, hb⟩
  obtain ⟨ao, cap, rs, rfl, hg1⟩ := hi1.got
  obtain ⟨bo, dap, ss, rfl, hg2⟩ := hi2.got
  have bx := val_bounds hx.parts.2.2.2
  have by' := val_bounds hy.parts.2.2.2
  refine ⟨ao, cap, rs, bo, dap, ss, rfl, hg1, hg2, le_len hx.parts.2.2.2 hg1.canon ?_, le_len hy.parts.2.2.2 hg2.canon ?_, hb⟩
  · rw [hg1.val]
    exact Int.ediv_le_self _ bx.1
  · rw [hg2.val]
    have := Int.emod_lt_of_pos (val xs) (show 0 < val ys by omega)
    omega
end Lm
end Go.Proofs.YtdiiankcjgoecaaDoor

namespace Go.Proofs.YtdiiankcjgoecaaDoor
namespace Lm
open Go.RowKit
theorem boxed4 (w : World) (nx : Bool) (vx : Value) (ny : Bool) (vy : Value) : ∃ w0 : World, (((w.alloc (.cells #[.bool nx, vx] 24)).alloc (.cells #[.bool ny, vy] 24)).alloc (.cells #[.bool false, .slice none 0 0] 24)).alloc (.cells #[.bool false, .slice none 0 0] 24) = w0 ∧ Box w0 w.heap.size nx vx ∧ Box w0 (w.heap.size + 1) ny vy ∧ Box w0 (w.heap.size + 1 + 1) false (.slice none 0 0) ∧ Box w0 (w.heap.size + 1 + 1 + 1) false (.slice none 0 0) ∧ Below w.heap.size w w0 ∧ w0.heap.size = w.heap.size + 4 := by
  obtain ⟨w2, e2, b1, b2, b3, hb, hs⟩ := boxed3 w nx vx ny vy
  have h2 := boxed w2 false (.slice none 0 0)
  rw [e2]
  refine ⟨_, rfl, b1.below h2.2.1, b2.below h2.2.1, b3.below h2.2.1, ?_, hb.trans (h2.2.1.mono (by omega)), by rw [h2.2.2, hs]⟩
  have h3 := h2.1
  rw [hs] at h3
  exact h3
theorem ediv_sg (ny : Bool) (X Y : Int) : X / sg ny Y = sg ny (X / Y) ∧ X % sg ny Y = X % Y := by
  cases ny <;> simp [sg, Int.ediv_neg, Int.emod_neg]
theorem euclid_neg {X Y : Int} (hY : 0 < Y) : (X % Y = 0 → -X / Y = -(X / Y) ∧ -X % Y = 0) ∧ (X % Y ≠ 0 → -X / Y = -(X / Y + 1) ∧ -X % Y = Y - X % Y) := by
  have h1 := Int.mul_ediv_add_emod X Y
  have h2 := Int.emod_nonneg X (show Y ≠ 0 by omega)
  have h3 := Int.emod_lt_of_pos X hY
  constructor
  · intro h0
    refine div_of hY ?_ (Int.le_refl 0) hY
    rw [Int.neg_mul, Int.mul_comm (X / Y)]
    omega
  · intro h0
    refine div_of hY ?_ (by omega) (by omega)
    rw [Int.neg_mul, Int.add_mul, Int.mul_comm (X / Y)]
    omega
theorem Box.other {w : World} {g h : Nat} {ng : Bool} {v : Value} (H : Box w g ng v) (hn : g ≠ h) (b u : Value) : Box ((w.setCell ⟨h, 0, none⟩ b).setCell ⟨h, 1, none⟩ u) g ng v :=
  (heap_setCell_other _ ⟨h, 1, none⟩ g u hn).trans ((heap_setCell_other w ⟨h, 0, none⟩ g b hn).trans H)
theorem box_two {w : World} {g h : Nat} {n1 n2 nq nr : Bool} {v1 v2 vq vr : Value} (H1 : Box w g n1 v1) (H2 : Box w h n2 v2) (hn : g ≠ h) : Box ((((w.setCell ⟨g, 0, none⟩ (.bool nq)).setCell ⟨g, 1, none⟩ vq).setCell ⟨h, 0, none⟩ (.bool nr)).setCell ⟨h, 1, none⟩ vr) g nq vq ∧ Box ((((w.setCell ⟨g, 0, none⟩ (.bool nq)).setCell ⟨g, 1, none⟩ vq).setCell ⟨h, 0, none⟩ (.bool nr)).setCell ⟨h, 1, none⟩ vr) h nr vr :=
  ⟨(H1.set nq vq).other hn _ _, (H2.other (Ne.symm hn) _ _).set nr vr⟩
theorem wdiv_pos (ny : Bool) (X Y : Int) : sg (false != ny) (X / Y) = sg false X / sg ny Y ∧ sg false (X % Y) = sg false X % sg ny Y := by
  have h := ediv_sg ny (sg false X) Y
  rw [h.1, h.2]
  cases ny <;> simp [sg]
theorem wdiv_even (nx ny : Bool) {X Y : Int} (hY : 0 < Y) (h0 : X % Y = 0) : sg (nx != ny) (X / Y) = sg nx X / sg ny Y ∧ sg false (X % Y) = sg nx X % sg ny Y := by
  cases nx with
  | false => exact wdiv_pos ny X Y
  | true =>
    have h := ediv_sg ny (sg true X) Y
    have h2 := (euclid_neg (X := X) hY).1 h0
    rw [h.1, h.2, h0]
    cases ny <;> simp [sg, h2]
theorem wdiv_odd (ny : Bool) {X Y : Int} (hY : 0 < Y) (h0 : X % Y ≠ 0) : sg (true != ny) (X / Y + 1) = sg true X / sg ny Y ∧ sg false (Y - X % Y) = sg true X % sg ny Y := by
  have h := ediv_sg ny (sg true X) Y
  have h2 := (euclid_neg (X := X) hY).2 h0
  rw [h.1, h.2]
  cases ny <;> simp [sg, h2]
set_option maxRecDepth 20000 in
set_option maxHeartbeats 1000000 in
theorem wdivmod_none (w : World) (nx : Bool) (a1 : Option Addr) (n1 c1 : Nat) (xs : List Int) (hx : Sl w (.slice a1 n1 c1) xs) (ny : Bool) (a2 : Option Addr) (n2 c2 : Nat) (ys : List Int) (hy : Sl w (.slice a2 n2 c2) ys) (h0 : val ys = 0) :
    Calls Tryd.prog 40 #[.agg #[.bool nx, .slice a1 n1 c1], .agg #[.bool ny, .slice a2 n2 c2]] w fun e w' => e = .returned (.tuple #[.agg #[.bool false, .slice none 0 0], .agg #[.bool false, .slice none 0 0], .bool false]) ∧ Below w.heap.size w w' := by
  obtain ⟨w0, e0, bx, by', bq, br, hb0, hs0⟩ := boxed4 w nx (.slice a1 n1 c1) ny (.slice a2 n2 c2)
  have E0 := hide e0
  have hx0 := hx.below hb0
  have hy0 := hy.below hb0
  clear e0 hs0
  have H0 := hide h0
  clear h0
  go_enter Tryd.func40, Tryd.ntmps40
  go_wp2_with fail
  rw [E0.out]
  obtain ⟨ca, cb, cc, cd⟩ := bx.facts
  obtain ⟨ea, eb, ec, ed⟩ := by'.facts
  refine (divmod_none _ _ _ _ _ _ _ xs ys hx0 hy0 H0.out).mono ?_
  rintro e w1 ⟨rfl, hb1⟩
  have Z := hide (hb0.trans (hb1.mono hb0.size))
  obtain ⟨qa, qb, qc, qd⟩ := (bq.below hb1).facts
  obtain ⟨ra, rb, rc, rd⟩ := (br.below hb1).facts
  have F := hide (box_two (nq := false) (vq := .slice none 0 0) (nr := false) (vr := .slice none 0 0) (bq.below hb1) (br.below hb1) (by omega))
  have Z2 := hide (below_set2 (below_set2 Z.out (show w.heap.size ≤ w.heap.size + 1 + 1 by omega) (.bool false) (.slice none 0 0)) (show w.heap.size ≤ w.heap.size + 1 + 1 + 1 by omega) (.bool false) (.slice none 0 0))
  go_wp2
  refine bodyPost_ret (v := .tuple #[.agg #[.bool false, .slice none 0 0], .agg #[.bool false, .slice none 0 0], .bool false]) ?_ rfl ⟨rfl, Z2.out⟩
  simp [results, Tryd.results40, go_sem, F.out.1.facts.1, F.out.1.facts.2.1, F.out.2.facts.1, F.out.2.facts.2.1]
set_option maxRecDepth 20000 in
set_option maxHeartbeats 1000000 in
theorem wdivmod_pos (w : World) (a1 : Option Addr) (n1 c1 : Nat) (xs : List Int) (hx : Sl w (.slice a1 n1 c1) xs) (ny : Bool) (a2 : Option Addr) (n2 c2 : Nat) (ys : List Int) (hy : Sl w (.slice a2 n2 c2) ys) (hm1 : xs.length ≤ 400000) (hm2 : ys.length ≤ 400000) (h0 : val ys ≠ 0) :
    Calls Tryd.prog 40 #[.agg #[.bool false, .slice a1 n1 c1], .agg #[.bool ny, .slice a2 n2 c2]] w fun e w' => ∃ nq aq cq qs nr ar cr rs, e = .returned (.tuple #[.agg #[.bool nq, .slice aq qs.length cq], .agg #[.bool nr, .slice ar rs.length cr], .bool true]) ∧ Wh w' nq aq cq qs (sg false (val xs) / sg ny (val ys)) ∧ Wh w' nr ar cr rs (sg false (val xs) % sg ny (val ys)) ∧ qs.length ≤ xs.length + 4 ∧ rs.length ≤ ys.length ∧ Below w.heap.size w w' := by
  obtain ⟨w0, e0, bx, by', bq, br, hb0, hs0⟩ := boxed4 w false (.slice a1 n1 c1) ny (.slice a2 n2 c2)
  have E0 := hide e0
  have hx0 := hx.below hb0
  have hy0 := hy.below hb0
  clear e0 hs0
  have PY : Hid (0 < val ys) := by have := (val_bounds hy.parts.2.2.2).1; show _ < _; omega
  have LY := hide hy.parts.2.2.2
  have H0 := hide h0
  clear h0
  go_enter Tryd.func40, Tryd.ntmps40
  go_wp2_with fail
  rw [E0.out]
  refine (divmod_g _ _ _ _ _ _ _ xs ys hx0 hy0 (by omega) H0.out).mono ?_
  rintro e w1 ⟨p1, q1, r1, p2, q2, r2, rfl, G1, G2, l1, l2, hb1⟩
  have HB : Below w0.heap.size w0 w1 := hb1
  obtain ⟨xa, xb, xc, xd⟩ := (bx.below HB).facts
  obtain ⟨ya, yb, yc, yd⟩ := (by'.below HB).facts
  go_wp2_with fail
  refine (signed_g _ _ _ _ r1 _ G1 (by omega)).mono ?_
  rintro e w7 ⟨ng7, rfl, G7, hb7⟩
  replace HB := HB.trans (hb7.mono HB.size)
  have G2' := G2.below hb7
  clear xa xb xc xd ya yb yc yd
  obtain ⟨xa, xb, xc, xd⟩ := (bx.below HB).facts
  obtain ⟨ya, yb, yc, yd⟩ := (by'.below HB).facts
  go_wp2_with fail
  refine (signed_g _ _ _ _ r2 _ G2' (by omega)).mono ?_
  rintro e w8 ⟨ng8, rfl, G8, hb8⟩
  replace HB := HB.trans (hb8.mono HB.size)
  replace G7 := G7.below hb8
  clear xa xb xc xd ya yb yc yd
  have bq8 := bq.below HB
  have br8 := br.below HB
  obtain ⟨qa, qb, qc, qd⟩ := bq8.facts
  obtain ⟨ra, rb, rc, rd⟩ := br8.facts
  have VQ : Hid (sg ny (val xs / val ys) = sg false (val xs) / sg ny (val ys) ∧ sg false (val xs % val ys) = sg false (val xs) % sg ny (val ys)) := by have h := wdiv_pos ny (val xs) (val ys); rwa [show (false != ny) = ny by cases ny <;> rfl] at h
  have Y1 := hide ((br8.other (show w.heap.size + 1 + 1 + 1 ≠ w.heap.size + 1 + 1 by omega) (.bool ng7) (.slice p1 r1.length q1)).wh ng8 (.slice p2 r2.length q2) (bq8.wh ng7 (.slice p1 r1.length q1) G7))
  have Y2 := hide ((br8.other (show w.heap.size + 1 + 1 + 1 ≠ w.heap.size + 1 + 1 by omega) (.bool ng7) (.slice p1 r1.length q1)).wh ng8 (.slice p2 r2.length q2) (bq8.wh ng7 (.slice p1 r1.length q1) G8))
  have F := hide (box_two (nq := ng7) (vq := .slice p1 r1.length q1) (nr := ng8) (vr := .slice p2 r2.length q2) bq8 br8 (by omega))
  have Z := hide (hb0.trans (HB.mono hb0.size))
  have Z2 := hide (below_set2 (below_set2 Z.out (show w.heap.size ≤ w.heap.size + 1 + 1 by omega) (.bool ng7) (.slice p1 r1.length q1)) (show w.heap.size ≤ w.heap.size + 1 + 1 + 1 by omega) (.bool ng8) (.slice p2 r2.length q2))
  go_wp2
  refine bodyPost_ret (v := .tuple #[.agg #[.bool ng7, .slice p1 r1.length q1], .agg #[.bool ng8, .slice p2 r2.length q2], .bool true]) ?_ rfl ⟨ng7, p1, q1, r1, ng8, p2, q2, r2, rfl, by rw [← VQ.out.1]; exact Y1.out, by rw [← VQ.out.2]; exact Y2.out, by omega, by omega, Z2.out⟩
  simp [results, Tryd.results40, go_sem, F.out.1.facts.1, F.out.1.facts.2.1, F.out.2.facts.1, F.out.2.facts.2.1]
set_option maxRecDepth 20000 in
set_option maxHeartbeats 1000000 in
theorem wdivmod_even (w : World) (a1 : Option Addr) (n1 c1 : Nat) (xs : List Int) (hx : Sl w (.slice a1 n1 c1) xs) (ny : Bool) (a2 : Option Addr) (n2 c2 : Nat) (ys : List Int) (hy : Sl w (.slice a2 n2 c2) ys) (hm1 : xs.length ≤ 400000) (_hm2 : ys.length ≤ 400000) (h0 : val ys ≠ 0) (hev : val xs % val ys = 0) :
    Calls Tryd.prog 40 #[.agg #[.bool true, .slice a1 n1 c1], .agg #[.bool ny, .slice a2 n2 c2]] w fun e w' => ∃ nq aq cq qs nr ar cr rs, e = .returned (.tuple #[.agg #[.bool nq, .slice aq qs.length cq], .agg #[.bool nr, .slice ar rs.length cr], .bool true]) ∧ Wh w' nq aq cq qs (sg true (val xs) / sg ny (val ys)) ∧ Wh w' nr ar cr rs (sg true (val xs) % sg ny (val ys)) ∧ qs.length ≤ xs.length + 4 ∧ rs.length ≤ ys.length ∧ Below w.heap.size w w' := by
  obtain ⟨w0, e0, bx, by', bq, br, hb0, hs0⟩ := boxed4 w true (.slice a1 n1 c1) ny (.slice a2 n2 c2)
  have E0 := hide e0
  have hx0 := hx.below hb0
  have hy0 := hy.below hb0
  clear e0 hs0
  have PY : Hid (0 < val ys) := by have := (val_bounds hy.parts.2.2.2).1; show _ < _; omega
  have LY := hide hy.parts.2.2.2
  have H0 := hide h0
  have HE := hide hev
  clear hev
  clear h0
  go_enter Tryd.func40, Tryd.ntmps40
  go_wp2_with fail
  rw [E0.out]
  refine (divmod_g _ _ _ _ _ _ _ xs ys hx0 hy0 (by omega) H0.out).mono ?_
  rintro e w1 ⟨p1, q1, r1, p2, q2, r2, rfl, G1, G2, l1, l2, hb1⟩
  have HB : Below w0.heap.size w0 w1 := hb1
  have hr2 : ¬ 0 < (r2.length : Int) := by
    have h9 : r2 = [] := (canon_zero G2.canon).1 (by rw [G2.val]; exact HE.out)
    rw [h9]; simp
  obtain ⟨xa, xb, xc, xd⟩ := (bx.below HB).facts
  obtain ⟨ya, yb, yc, yd⟩ := (by'.below HB).facts
  go_wp2_with fail
  refine (signed_g _ _ _ _ r1 _ G1 (by omega)).mono ?_
  rintro e w7 ⟨ng7, rfl, G7, hb7⟩
  replace HB := HB.trans (hb7.mono HB.size)
  have G2' := G2.below hb7
  clear xa xb xc xd ya yb yc yd
  obtain ⟨xa, xb, xc, xd⟩ := (bx.below HB).facts
  obtain ⟨ya, yb, yc, yd⟩ := (by'.below HB).facts
  go_wp2_with fail
  refine (signed_g _ _ _ _ r2 _ G2' (by omega)).mono ?_
  rintro e w8 ⟨ng8, rfl, G8, hb8⟩
  replace HB := HB.trans (hb8.mono HB.size)
  replace G7 := G7.below hb8
  clear xa xb xc xd ya yb yc yd
  have bq8 := bq.below HB
  have br8 := br.below HB
  obtain ⟨qa, qb, qc, qd⟩ := bq8.facts
  obtain ⟨ra, rb, rc, rd⟩ := br8.facts
  have VQ : Hid (sg (!ny) (val xs / val ys) = sg true (val xs) / sg ny (val ys) ∧ sg false (val xs % val ys) = sg true (val xs) % sg ny (val ys)) := by have h := wdiv_even true ny PY.out HE.out; rwa [show (true != ny) = !ny by cases ny <;> rfl] at h
  have Y1 := hide ((br8.other (show w.heap.size + 1 + 1 + 1 ≠ w.heap.size + 1 + 1 by omega) (.bool ng7) (.slice p1 r1.length q1)).wh ng8 (.slice p2 r2.length q2) (bq8.wh ng7 (.slice p1 r1.length q1) G7))
  have Y2 := hide ((br8.other (show w.heap.size + 1 + 1 + 1 ≠ w.heap.size + 1 + 1 by omega) (.bool ng7) (.slice p1 r1.length q1)).wh ng8 (.slice p2 r2.length q2) (bq8.wh ng7 (.slice p1 r1.length q1) G8))
  have F := hide (box_two (nq := ng7) (vq := .slice p1 r1.length q1) (nr := ng8) (vr := .slice p2 r2.length q2) bq8 br8 (by omega))
  have Z := hide (hb0.trans (HB.mono hb0.size))
  have Z2 := hide (below_set2 (below_set2 Z.out (show w.heap.size ≤ w.heap.size + 1 + 1 by omega) (.bool ng7) (.slice p1 r1.length q1)) (show w.heap.size ≤ w.heap.size + 1 + 1 + 1 by omega) (.bool ng8) (.slice p2 r2.length q2))
  go_wp2
  refine bodyPost_ret (v := .tuple #[.agg #[.bool ng7, .slice p1 r1.length q1], .agg #[.bool ng8, .slice p2 r2.length q2], .bool true]) ?_ rfl ⟨ng7, p1, q1, r1, ng8, p2, q2, r2, rfl, by rw [← VQ.out.1]; exact Y1.out, by rw [← VQ.out.2]; exact Y2.out, by omega, by omega, Z2.out⟩
  simp [results, Tryd.results40, go_sem, F.out.1.facts.1, F.out.1.facts.2.1, F.out.2.facts.1, F.out.2.facts.2.1]
set_option maxRecDepth 20000 in
set_option maxHeartbeats 1000000 in
theorem wdivmod_odd (w : World) (a1 : Option Addr) (n1 c1 : Nat) (xs : List Int) (hx : Sl w (.slice a1 n1 c1) xs) (ny : Bool) (a2 : Option Addr) (n2 c2 : Nat) (ys : List Int) (hy : Sl w (.slice a2 n2 c2) ys) (hm1 : xs.length ≤ 400000) (hm2 : ys.length ≤ 400000) (h0 : val ys ≠ 0) (hod : val xs % val ys ≠ 0) :
    Calls Tryd.prog 40 #[.agg #[.bool true, .slice a1 n1 c1], .agg #[.bool ny, .slice a2 n2 c2]] w fun e w' => ∃ nq aq cq qs nr ar cr rs, e = .returned (.tuple #[.agg #[.bool nq, .slice aq qs.length cq], .agg #[.bool nr, .slice ar rs.length cr], .bool true]) ∧ Wh w' nq aq cq qs (sg true (val xs) / sg ny (val ys)) ∧ Wh w' nr ar cr rs (sg true (val xs) % sg ny (val ys)) ∧ qs.length ≤ xs.length + 4 ∧ rs.length ≤ ys.length ∧ Below w.heap.size w w' := by
  obtain ⟨w0, e0, bx, by', bq, br, hb0, hs0⟩ := boxed4 w true (.slice a1 n1 c1) ny (.slice a2 n2 c2)
  have E0 := hide e0
  have hx0 := hx.below hb0
  have hy0 := hy.below hb0
  clear e0 hs0
  have PY : Hid (0 < val ys) := by have := (val_bounds hy.parts.2.2.2).1; show _ < _; omega
  have LY := hide hy.parts.2.2.2
  have H0 := hide h0
  have HE := hide hod
  clear hod
  clear h0
  go_enter Tryd.func40, Tryd.ntmps40
  go_wp2_with fail
  rw [E0.out]
  refine (divmod_g _ _ _ _ _ _ _ xs ys hx0 hy0 (by omega) H0.out).mono ?_
  rintro e w1 ⟨p1, q1, r1, p2, q2, r2, rfl, G1, G2, l1, l2, hb1⟩
  have HB : Below w0.heap.size w0 w1 := hb1
  have hr2 : 0 < (r2.length : Int) := by
    have h9 : r2 ≠ [] := fun e => HE.out (by rw [← G2.val]; exact (canon_zero G2.canon).2 e)
    have h8 : r2.length ≠ 0 := fun e => h9 (List.eq_nil_of_length_eq_zero e)
    omega
  obtain ⟨xa, xb, xc, xd⟩ := (bx.below HB).facts
  go_wp2_with fail
  refine (small_any _ 1 (by omega) (by omega)).mono ?_
  rintro e w3 ⟨v3, rfl, hi3, hb3⟩
  obtain ⟨p3, q3, r3, rfl, G3, l3⟩ := got_small hi3 (by omega)
  clear hi3
  replace HB := HB.trans (hb3.mono HB.size)
  replace G1 := G1.below hb3
  replace G2 := G2.below hb3
  go_wp2_with fail
  refine (add_g _ _ _ _ _ _ _ r1 r3 G1.sl G3.sl (by omega) (by omega)).mono ?_
  rintro e w4 ⟨p4, q4, r4, rfl, G4, l4, hb4⟩
  replace HB := HB.trans (hb4.mono HB.size)
  replace G2 := G2.below hb4
  rw [G1.val, G3.val] at G4
  have hy4 := hy0.below HB
  obtain ⟨ya, yb, yc, yd⟩ := (by'.below HB).facts
  go_wp2_with fail
  refine (sub_g _ _ _ _ _ _ _ ys r2 hy4 G2.sl (by omega) (by rw [G2.val]; exact Int.le_of_lt (Int.emod_lt_of_pos _ PY.out))).mono ?_
  rintro e w5 ⟨p5, q5, r5, rfl, G5, l5, hb5⟩
  replace HB := HB.trans (hb5.mono HB.size)
  replace G4 := G4.below hb5
  rw [G2.val] at G5
  clear xa xb xc xd ya yb yc yd G1 G2 G3 hy4
  obtain ⟨xa, xb, xc, xd⟩ := (bx.below HB).facts
  obtain ⟨ya, yb, yc, yd⟩ := (by'.below HB).facts
  go_wp2_with fail
  refine (signed_g _ _ _ _ r4 _ G4 (by omega)).mono ?_
  rintro e w7 ⟨ng7, rfl, G7, hb7⟩
  replace HB := HB.trans (hb7.mono HB.size)
  have G2' := G5.below hb7
  clear xa xb xc xd ya yb yc yd
  obtain ⟨xa, xb, xc, xd⟩ := (bx.below HB).facts
  obtain ⟨ya, yb, yc, yd⟩ := (by'.below HB).facts
  go_wp2_with fail
  refine (signed_g _ _ _ _ r5 _ G2' (by omega)).mono ?_
  rintro e w8 ⟨ng8, rfl, G8, hb8⟩
  replace HB := HB.trans (hb8.mono HB.size)
  replace G7 := G7.below hb8
  clear xa xb xc xd ya yb yc yd
  have bq8 := bq.below HB
  have br8 := br.below HB
  obtain ⟨qa, qb, qc, qd⟩ := bq8.facts
  obtain ⟨ra, rb, rc, rd⟩ := br8.facts
  have VQ : Hid (sg (!ny) (val xs / val ys + 1) = sg true (val xs) / sg ny (val ys) ∧ sg false (val ys - val xs % val ys) = sg true (val xs) % sg ny (val ys)) := by have h := wdiv_odd ny PY.out HE.out; rwa [show (true != ny) = !ny by cases ny <;> rfl] at h
  have Y1 := hide ((br8.other (show w.heap.size + 1 + 1 + 1 ≠ w.heap.size + 1 + 1 by omega) (.bool ng7) (.slice p4 r4.length q4)).wh ng8 (.slice p5 r5.length q5) (bq8.wh ng7 (.slice p4 r4.length q4) G7))
  have Y2 := hide ((br8.other (show w.heap.size + 1 + 1 + 1 ≠ w.heap.size + 1 + 1 by omega) (.bool ng7) (.slice p4 r4.length q4)).wh ng8 (.slice p5 r5.length q5) (bq8.wh ng7 (.slice p4 r4.length q4) G8))
  have F := hide (box_two (nq := ng7) (vq := .slice p4 r4.length q4) (nr := ng8) (vr := .slice p5 r5.length q5) bq8 br8 (by omega))
  have Z := hide (hb0.trans (HB.mono hb0.size))
  have Z2 := hide (below_set2 (below_set2 Z.out (show w.heap.size ≤ w.heap.size + 1 + 1 by omega) (.bool ng7) (.slice p4 r4.length q4)) (show w.heap.size ≤ w.heap.size + 1 + 1 + 1 by omega) (.bool ng8) (.slice p5 r5.length q5))
  go_wp2
  refine bodyPost_ret (v := .tuple #[.agg #[.bool ng7, .slice p4 r4.length q4], .agg #[.bool ng8, .slice p5 r5.length q5], .bool true]) ?_ rfl ⟨ng7, p4, q4, r4, ng8, p5, q5, r5, rfl, by rw [← VQ.out.1]; exact Y1.out, by rw [← VQ.out.2]; exact Y2.out, by omega, by omega, Z2.out⟩
  simp [results, Tryd.results40, go_sem, F.out.1.facts.1, F.out.1.facts.2.1, F.out.2.facts.1, F.out.2.facts.2.1]
theorem wdivmod_g (w : World) (nx : Bool) (a1 : Option Addr) (n1 c1 : Nat) (xs : List Int) (hx : Sl w (.slice a1 n1 c1) xs) (ny : Bool) (a2 : Option Addr) (n2 c2 : Nat) (ys : List Int) (hy : Sl w (.slice a2 n2 c2) ys) (hm1 : xs.length ≤ 400000) (hm2 : ys.length ≤ 400000) (h0 : val ys ≠ 0) :
    Calls Tryd.prog 40 #[.agg #[.bool nx, .slice a1 n1 c1], .agg #[.bool ny, .slice a2 n2 c2]] w fun e w' => ∃ nq aq cq qs nr ar cr rs, e = .returned (.tuple #[.agg #[.bool nq, .slice aq qs.length cq], .agg #[.bool nr, .slice ar rs.length cr], .bool true]) ∧ Wh w' nq aq cq qs (sg nx (val xs) / sg ny (val ys)) ∧ Wh w' nr ar cr rs (sg nx (val xs) % sg ny (val ys)) ∧ qs.length ≤ xs.length + 4 ∧ rs.length ≤ ys.length ∧ Below w.heap.size w w' := by
  cases nx with
  | false => exact wdivmod_pos w a1 n1 c1 xs hx ny a2 n2 c2 ys hy hm1 hm2 h0
  | true =>
    by_cases he : val xs % val ys = 0
    · exact wdivmod_even w a1 n1 c1 xs hx ny a2 n2 c2 ys hy hm1 hm2 h0 he
    · exact wdivmod_odd w a1 n1 c1 xs hx ny a2 n2 c2 ys hy hm1 hm2 h0 he
end Lm
end Go.Proofs.YtdiiankcjgoecaaDoor

namespace Go.Proofs.YtdiiankcjgoecaaDoor
namespace Lm
open Go.RowKit
theorem wdec_len {ds : List Int} {x : Int} (h : IsDec ds x) {m : Nat} (hm : 1 ≤ m) (hx : x < p10 m) : ds.length ≤ m := by
  obtain ⟨h1, h2, h3⟩ := h
  rcases h3 with ⟨_, rfl⟩ | ⟨c, cs, rfl, hc⟩
  · simp; omega
  · have := dval_low h1 hc
    simp only [List.length_cons]
    apply Classical.byContradiction
    intro hn
    have := p10_mono (m := m) (n := cs.length) (by omega)
    omega
theorem minus_ahead (ds : List Int) : (⟨#[45]⟩ : ByteArray) ++ strOfNums ds = strOfNums (45 :: ds) := by
  apply ByteArray.ext
  rw [ByteArray.data_append]
  apply Array.toList_inj.1
  simp [strOfNums]
theorem sign_three' (z : Int) : -1 ≤ Int.sign z ∧ Int.sign z ≤ 1 := by
  rcases Int.lt_trichotomy z 0 with h | h | h
  · rw [Int.sign_eq_neg_one_of_neg h]; omega
  · rw [h]; simp
  · rw [Int.sign_eq_one_of_pos h]; omega
set_option maxRecDepth 20000 in
set_option maxHeartbeats 400000 in
theorem wtext_neg (w : World) (ng : Bool) (ao : Option Addr) (n cap : Nat) (zs : List Int) (h : Sl w (.slice ao n cap) zs) (hz : zs.length ≤ 1000000) (hneg : sg ng (val zs) < 0) :
    Calls Tryd.prog 13 #[.agg #[.bool ng, .slice ao n cap]] w fun e w' => ∃ ds, e = .returned (.string (strOfNums (45 :: ds))) ∧ IsDec ds (val zs) ∧ Below w.heap.size w w' := by
  obtain ⟨w0, e0, bx, hb0, hs0⟩ := boxed0 w ng (.slice ao n cap)
  have E0 := hide e0
  have h0 := h.below hb0
  have HN := hide hneg
  have ks := wsign_any w0 ng ao n cap zs h0 hz
  rw [Int.sign_eq_neg_one_of_neg hneg] at ks
  have KS := hide ks
  clear e0 hs0 ks hneg
  go_enter Tryd.func13, Tryd.ntmps13
  go_wp2_with fail
  rw [E0.out]
  refine (KS.out).mono ?_
  rintro e w1 ⟨rfl, hb1⟩
  obtain ⟨xa, xb, xc, xd⟩ := (bx.below hb1).facts
  have h1 := h0.below hb1
  go_wp2_with fail
  refine (text_any _ _ _ _ zs h1 hz).mono ?_
  rintro e w2 ⟨ds, rfl, hd, hb2⟩
  have Z := hide (hb0.trans ((hb1.trans (hb2.mono hb1.size)).mono hb0.size))
  have HD := hide hd
  have hcs : ¬ 9223372036854775807 < 1 + (strOfNums ds).size := by
    have h8 := (val_bounds h.parts.2.2.2).2
    have h7 := pw_le_p10 zs.length
    have h6 := p10_mono (m := 10 * zs.length) (n := 10 * zs.length + 1) (by omega)
    have h9 := wdec_len hd (m := 10 * zs.length + 1) (by omega) (by omega)
    rw [strOfNums_size]
    omega
  have MA := hide (minus_ahead ds)
  clear hd
  go_wp2
  refine bodyPost_ret (v := .string (strOfNums (45 :: ds))) ?_ rfl ⟨ds, rfl, HD.out, Z.out⟩
  simp [results, Tryd.results13, go_sem, MA.out]
set_option maxRecDepth 20000 in
set_option maxHeartbeats 400000 in
theorem wtext_pos (w : World) (ng : Bool) (ao : Option Addr) (n cap : Nat) (zs : List Int) (h : Sl w (.slice ao n cap) zs) (hz : zs.length ≤ 1000000) (hpos : ¬ sg ng (val zs) < 0) :
    Calls Tryd.prog 13 #[.agg #[.bool ng, .slice ao n cap]] w fun e w' => ∃ ds, e = .returned (.string (strOfNums ds)) ∧ IsDec ds (val zs) ∧ Below w.heap.size w w' := by
  obtain ⟨w0, e0, bx, hb0, hs0⟩ := boxed0 w ng (.slice ao n cap)
  have E0 := hide e0
  have h0 := h.below hb0
  obtain ⟨s, hs, hs1⟩ : ∃ s, Int.sign (sg ng (val zs)) = s ∧ ¬ s < 0 := ⟨_, rfl, by
    intro h9
    have h8 := Int.sign_eq_neg_one_iff_neg.1 (show Int.sign (sg ng (val zs)) = -1 by have := sign_three' (sg ng (val zs)); omega)
    omega⟩
  have ks := wsign_any w0 ng ao n cap zs h0 hz
  rw [hs] at ks
  have KS := hide ks
  clear e0 hs0 ks hpos hs
  go_enter Tryd.func13, Tryd.ntmps13
  go_wp2_with fail
  rw [E0.out]
  refine (KS.out).mono ?_
  rintro e w1 ⟨rfl, hb1⟩
  obtain ⟨xa, xb, xc, xd⟩ := (bx.below hb1).facts
  have h1 := h0.below hb1
  go_wp2_with fail
  refine (text_any _ _ _ _ zs h1 hz).mono ?_
  rintro e w2 ⟨ds, rfl, hd, hb2⟩
  have Z := hide (hb0.trans ((hb1.trans (hb2.mono hb1.size)).mono hb0.size))
  have HD := hide hd
  clear hd
  go_wp2
  go_ret
  exact ⟨ds, rfl, HD.out, Z.out⟩
end Lm
end Go.Proofs.YtdiiankcjgoecaaDoor

namespace Go.Proofs.YtdiiankcjgoecaaDoor
namespace Lm
open Go.RowKit
theorem divmod_z (w : World) (nx : Bool) (a1 : Option Addr) (n1 c1 : Nat) (xs : List Int) (x : Int) (hx : Ag w nx a1 n1 c1 xs x) (ny : Bool) (a2 : Option Addr) (n2 c2 : Nat) (ys : List Int) (y : Int) (hy : Ag w ny a2 n2 c2 ys y) (hm1 : xs.length ≤ 400000) (hm2 : ys.length ≤ 400000) (h0 : y ≠ 0) :
    Calls Tryd.prog 40 #[.agg #[.bool nx, .slice a1 n1 c1], .agg #[.bool ny, .slice a2 n2 c2]] w fun e w' => ∃ nq aq cq qs nr ar cr rs, e = .returned (.tuple #[.agg #[.bool nq, .slice aq qs.length cq], .agg #[.bool nr, .slice ar rs.length cr], .bool true]) ∧ Wh w' nq aq cq qs (x / y) ∧ Wh w' nr ar cr rs (x % y) ∧ qs.length ≤ xs.length + 4 ∧ rs.length ≤ ys.length ∧ Below w.heap.size w w' := by
  have h := wdivmod_g w nx a1 n1 c1 xs hx.sl ny a2 n2 c2 ys hy.sl hm1 hm2 (fun e => h0 (by rw [← hy.worth, e]; cases ny <;> simp [sg]))
  rw [hx.worth, hy.worth] at h
  exact h
theorem dec12 : IsDec [49, 50] 12 := by
  refine ⟨?_, by decide, .inr ⟨49, _, rfl, by decide⟩⟩
  intro c hc
  simp at hc
  omega
theorem text12 (w : World) (ng : Bool) (ao : Option Addr) (cap : Nat) (rs : List Int) (h : Wh w ng ao cap rs (-12)) (hl : rs.length ≤ 2) :
    Calls Tryd.prog 13 #[.agg #[.bool ng, .slice ao rs.length cap]] w fun e w' => e = .returned (.string ⟨#[45, 49, 50]⟩) ∧ Below w.heap.size w w' := by
  refine (wtext_neg w ng ao _ cap rs h.sl (by omega) (by rw [h.worth]; decide)).mono ?_
  rintro e w' ⟨ds, rfl, hd, hb⟩
  have e2 := isDec_one hd (show IsDec [49, 50] (val rs) by rw [h.1.val]; exact dec12)
  subst e2
  exact ⟨rfl, hb⟩
set_option maxRecDepth 20000 in
set_option maxHeartbeats 1000000 in
theorem wawake_any (w : World) : Calls Tryd.prog 9 #[] w fun e w' => e = .returned (.bool true) ∧ Below w.heap.size w w' := by
  have HB := Below.refl w.heap.size w
  go_enter Tryd.func9, Tryd.ntmps9
  go_wp2_with fail
  refine (lsmall_g _ (-7) (by omega) (by omega)).mono ?_
  rintro e w1 ⟨s1, p1, q1, r1, rfl, G1, l1, hb1⟩
  replace HB := HB.trans (hb1.mono HB.size)
  go_wp2_with fail
  refine (lsmall_g _ 2 (by omega) (by omega)).mono ?_
  rintro e w2 ⟨s2, p2, q2, r2, rfl, G2, l2, hb2⟩
  replace HB := HB.trans (hb2.mono HB.size)
  replace G1 := G1.below hb2
  go_wp2_with fail
  refine (divmod_z _ _ _ _ _ _ _ G1.ag _ _ _ _ _ _ G2.ag (by omega) (by omega) (by decide)).mono ?_
  rintro e w3 ⟨s3, p3, q3, r3, s4, p4, q4, r4, rfl, G3, G4, l3, l4, hb3⟩
  replace HB := HB.trans (hb3.mono HB.size)
  rw [show (-7 : Int) / 2 = -4 by decide] at G3
  rw [show (-7 : Int) % 2 = 1 by decide] at G4
  obtain ⟨w4, e4, bq, br, hb4, hs4⟩ := boxed2 w3 s3 (.slice p3 r3.length q3) s4 (.slice p4 r4.length q4)
  have E4 := hide e4
  replace HB := HB.trans (hb4.mono HB.size)
  replace G3 := G3.below hb4
  replace G4 := G4.below hb4
  clear e4 hs4 hb1 hb2 hb3 G1 G2
  go_wp2
  rw [E4.out]
  clear E4
  obtain ⟨bq1, bq2, bq3, bq4⟩ := bq.facts
  obtain ⟨br1, br2, br3, br4⟩ := br.facts
  go_region_held3 (fun w' => w'.cell? ⟨w3.heap.size, 0, none⟩ = some (.bool s3) ∧ w'.cell? ⟨w3.heap.size, 1, none⟩ = some (.slice p3 r3.length q3) ∧ w'.cell? ⟨w3.heap.size + 1, 0, none⟩ = some (.bool s4) ∧ w'.cell? ⟨w3.heap.size + 1, 1, none⟩ = some (.slice p4 r4.length q4)) (go_keep) (first
    | (go_at_call 13; have _hq := hb9'; refine (text12 _ _ _ _ _ (G9.below (by repeat (first | exact Below.refl _ _ | refine Below.drew ?_))) (by omega)).mono ?_; rintro e w10 ⟨rfl, hb10⟩; have hb10' : Below w9.heap.size w9 w10 := (show Below w9.heap.size w9 _ by repeat (first | exact Below.refl _ _ | refine Below.drew ?_)).trans hb10; have HB := HB.trans (hb10'.mono HB.size); replace bq := bq.below hb10'; clear bq1 bq2 bq3 bq4; obtain ⟨bq1, bq2, bq3, bq4⟩ := bq.facts; replace br := br.below hb10'; clear br1 br2 br3 br4; obtain ⟨br1, br2, br3, br4⟩ := br.facts)
    | (go_at_call 41; have _hq := hb8'; refine (lsmall_g _ (-12) (by omega) (by omega)).mono ?_; rintro e w9 ⟨s9, p9, q9, r9, rfl, G9, l9, hb9⟩; have hb9' : Below w8.heap.size w8 w9 := (show Below w8.heap.size w8 _ by repeat (first | exact Below.refl _ _ | refine Below.drew ?_)).trans hb9; have HB := HB.trans (hb9'.mono HB.size); replace bq := bq.below hb9'; clear bq1 bq2 bq3 bq4; obtain ⟨bq1, bq2, bq3, bq4⟩ := bq.facts; replace br := br.below hb9'; clear br1 br2 br3 br4; obtain ⟨br1, br2, br3, br4⟩ := br.facts)
    | (go_at_call 17; have _hq := hb7'; refine (same_z _ _ _ _ _ _ _ _ _ _ _ (G4.below (by repeat (first | exact Below.refl _ _ | refine Below.drew ?_))) (G7.below (by repeat (first | exact Below.refl _ _ | refine Below.drew ?_))) true (by decide)).mono ?_; rintro e w8 ⟨rfl, hb8⟩; have hb8' : Below w7.heap.size w7 w8 := (show Below w7.heap.size w7 _ by repeat (first | exact Below.refl _ _ | refine Below.drew ?_)).trans hb8; have HB := HB.trans (hb8'.mono HB.size); replace bq := bq.below hb8'; clear bq1 bq2 bq3 bq4; obtain ⟨bq1, bq2, bq3, bq4⟩ := bq.facts; replace br := br.below hb8'; clear br1 br2 br3 br4; obtain ⟨br1, br2, br3, br4⟩ := br.facts)
    | (go_at_call 41; have _hq := hb6'; refine (lsmall_g _ 1 (by omega) (by omega)).mono ?_; rintro e w7 ⟨s7, p7, q7, r7, rfl, G7, l7, hb7⟩; have hb7' : Below w6.heap.size w6 w7 := (show Below w6.heap.size w6 _ by repeat (first | exact Below.refl _ _ | refine Below.drew ?_)).trans hb7; have HB := HB.trans (hb7'.mono HB.size); replace G4 := G4.below hb7'; replace bq := bq.below hb7'; clear bq1 bq2 bq3 bq4; obtain ⟨bq1, bq2, bq3, bq4⟩ := bq.facts; replace br := br.below hb7'; clear br1 br2 br3 br4; obtain ⟨br1, br2, br3, br4⟩ := br.facts)
    | (go_at_call 17; have _hq := hb5'; refine (same_z _ _ _ _ _ _ _ _ _ _ _ (G3.below (by repeat (first | exact Below.refl _ _ | refine Below.drew ?_))) (G5.below (by repeat (first | exact Below.refl _ _ | refine Below.drew ?_))) true (by decide)).mono ?_; rintro e w6 ⟨rfl, hb6⟩; have hb6' : Below w5.heap.size w5 w6 := (show Below w5.heap.size w5 _ by repeat (first | exact Below.refl _ _ | refine Below.drew ?_)).trans hb6; have HB := HB.trans (hb6'.mono HB.size); replace G4 := G4.below hb6'; replace bq := bq.below hb6'; clear bq1 bq2 bq3 bq4; obtain ⟨bq1, bq2, bq3, bq4⟩ := bq.facts; replace br := br.below hb6'; clear br1 br2 br3 br4; obtain ⟨br1, br2, br3, br4⟩ := br.facts)
    | (go_at_call 41; refine (lsmall_g _ (-4) (by omega) (by omega)).mono ?_; rintro e w5 ⟨s5, p5, q5, r5, rfl, G5, l5, hb5⟩; have hb5' : Below w4.heap.size w4 w5 := (show Below w4.heap.size w4 _ by repeat (first | exact Below.refl _ _ | refine Below.drew ?_)).trans hb5; have HB := HB.trans (hb5'.mono HB.size); replace G3 := G3.below hb5'; replace G4 := G4.below hb5'; replace bq := bq.below hb5'; clear bq1 bq2 bq3 bq4; obtain ⟨bq1, bq2, bq3, bq4⟩ := bq.facts; replace br := br.below hb5'; clear br1 br2 br3 br4; obtain ⟨br1, br2, br3, br4⟩ := br.facts))
  all_goals
    clear bq1 bq2 bq3 bq4 br1 br2 br3 br4
    go_wp2
    go_ret
    exact ⟨rfl, HB⟩
end Lm
end Go.Proofs.YtdiiankcjgoecaaDoor

namespace Go.Proofs.YtdiiankcjgoecaaDoor
namespace Lm
open Go.RowKit
open Classical in
noncomputable def worth (w : World) (v : Value) : Nat := if h : ∃ r, Sl w v r then (val (Classical.choose h)).toNat else 0
end Lm
end Go.Proofs.YtdiiankcjgoecaaDoor

namespace Go.Proofs.YtdiiankcjgoecaaDoor
namespace Lm
open Go Go.RowKit
section
variable {dst : Option Tmp} {ty : TypeId} {pos : String} {after : Array Edge} {guard : Option (Nat × Bool)} {a : Act} {w : World} {ats : Array TypeId} {i j : Nat} {x y : Int} {L L1 L2 : Nat}
theorem has_lenw : Has Tryd.prog 10 := by unfold Has; kernel_rfl
theorem op_lenw {ng : Bool} {ao : Option Addr} {n c : Nat} (h : a.eval (.tmp i) = .agg #[.bool ng, .slice ao n c]) (hn : n ≤ 35184372088832) :
    Does Tryd.prog { dst, op := .call { callee := .value (.func 10), args := #[.tmp i], argTypes := ats }, type := ty, pos, after, guard } a.eval w fun v w' => Below w.heap.size w w' ∧ Eqs (.int .i64 (1 + (n : Int))) v w' := by
  refine does_call has_lenw _ (by simp only [List.map_toArray, List.map_cons, List.map_nil, h]) ((wlen_any w ng ao n c hn).mono ?_)
  rintro e w' ⟨rfl, hb⟩
  exact ⟨_, rfl, hb, rfl⟩
end
end Lm
end Go.Proofs.YtdiiankcjgoecaaDoor

namespace Go.Proofs.YtdiiankcjgoecaaDoor
namespace Dm
open Go.RowKit
open Lm (hide lt_of_cell lt_of_heap div_of info32 cmpI cmpI_lt cmpI_gt cmpI_eq ret_i64)
theorem getD_take (zs : List Int) (i k : Nat) (h : i < k) : (zs.take k).getD i 0 = zs.getD i 0 := by
  rw [List.getD_eq_getElem?_getD, List.getD_eq_getElem?_getD, List.getElem?_take, if_pos h]
def sgn (n : Nat) : Int := if n = 0 then 0 else 1
end Dm
end Go.Proofs.YtdiiankcjgoecaaDoor

namespace Go.Proofs.YtdiiankcjgoecaaDoor
namespace Dm
open Go.RowKit
open Lm (hide)
def Dl (B : Nat) (w : World) (v : Value) (x : Int) (n : Nat) : Prop := ∃ ds, Ow B w v ds ∧ val ds = x ∧ ds.length ≤ n
end Dm
end Go.Proofs.YtdiiankcjgoecaaDoor

namespace Go.Proofs.YtdiiankcjgoecaaDoor
namespace Dm
open Go.RowKit
open Lm (hide lt_of_cell lt_of_heap)
theorem Sl.copy {w : World} {b off n cap : Nat} {D : List Int} (h : Sl w (.slice (some ⟨b, off, none⟩) n cap) D) : ∀ j u, (D.map (Value.int .i64))[j]? = some u → w.cell? ((⟨b, off, none⟩ : Addr).add j) = some u := by
  intro j u hu
  rw [List.getElem?_map] at hu
  have hj : j < D.length := by
    apply Classical.byContradiction
    intro hn
    rw [List.getElem?_eq_none (by omega)] at hu
    cases hu
  rw [List.getElem?_eq_getElem hj] at hu
  obtain ⟨b', off', e, hc⟩ := h.cells (by omega)
  obtain ⟨rfl, rfl⟩ : b = b' ∧ off = off' := by simpa using e
  have hcj := hc j hj
  rw [List.getD_eq_getElem?_getD, List.getElem?_eq_getElem hj] at hcj
  rw [show ((⟨b, off, none⟩ : Addr).add j) = ⟨b, off + j, none⟩ from by simp [Addr.add], hcj]
  exact hu
theorem one_cells (D : List Int) : ∀ u ∈ D.map (Value.int .i64), u.oneCell' = true := by
  intro u hu
  obtain ⟨z, _, rfl⟩ := List.mem_map.1 hu
  rfl
end Dm
end Go.Proofs.YtdiiankcjgoecaaDoor

namespace Go.Proofs.YtdiiankcjgoecaaDoor
namespace Dm
open Go.RowKit
open Lm (hide lt_of_cell lt_of_heap)
def sg (ng : Bool) (x : Int) : Int := if ng then -x else x
def Wh (w : World) (ng : Bool) (ao : Option Addr) (cap : Nat) (rs : List Int) (z : Int) : Prop := Got w ao cap rs (z.natAbs : Int) ∧ ng = decide (z < 0)
theorem Wh.below {w w' : World} {ng : Bool} {ao : Option Addr} {cap : Nat} {rs : List Int} {z : Int} (h : Wh w ng ao cap rs z) (hb : Below w.heap.size w w') : Wh w' ng ao cap rs z := ⟨h.1.below hb, h.2⟩
theorem Wh.worth {w : World} {ng : Bool} {ao : Option Addr} {cap : Nat} {rs : List Int} {z : Int} (h : Wh w ng ao cap rs z) : sg ng (Dm.val rs) = z := by
  rw [h.1.val, h.2, sg]
  by_cases hz : z < 0
  · simp [hz]; omega
  · simp [hz]; omega
theorem Wh.of {w : World} {ao : Option Addr} {cap : Nat} {rs : List Int} {x : Int} (ng : Bool) (h : Got w ao cap rs x) : Wh w (ng && decide (0 < rs.length)) ao cap rs (sg ng x) := by
  have h0 : 0 ≤ x := by rw [← h.val]; exact (val_bounds h.canon.1).1
  have hz := canon_zero h.canon
  rw [h.val] at hz
  have hl : rs = [] ↔ rs.length = 0 := List.length_eq_zero_iff.symm
  cases ng with
  | false =>
    refine ⟨?_, ?_⟩
    · have e : ((sg false x).natAbs : Int) = x := by simp [sg]; omega
      rw [e]; exact h
    · simp [sg]; omega
  | true =>
    refine ⟨?_, ?_⟩
    · have e : ((sg true x).natAbs : Int) = x := by simp [sg]; omega
      rw [e]; exact h
    · have e3 : (0 < rs.length) ↔ (sg true x < 0) := by
        simp only [sg, if_true]
        constructor
        · intro h1
          have : x ≠ 0 := fun h2 => by have := hl.1 (hz.1 h2); omega
          omega
        · intro h1
          have : rs.length ≠ 0 := fun h2 => by have := hz.2 (hl.2 h2); omega
          omega
      rw [Bool.true_and]
      exact decide_eq_decide.2 e3
def Box (w : World) (g : Nat) (ng : Bool) (v : Value) : Prop := w.heap[g]? = some (.cells #[.bool ng, v] 77 (0, 0))
theorem Box.below {w w' : World} {g : Nat} {ng : Bool} {v : Value} (h : Box w g ng v) (hb : Below w.heap.size w w') : Box w' g ng v := (hb.block g (lt_of_heap h)).trans h
theorem Box.facts {w : World} {g : Nat} {ng : Bool} {v : Value} (h : Box w g ng v) : w.cell? ⟨g, 0, none⟩ = some (.bool ng) ∧ w.cell? ⟨g, 1, none⟩ = some v ∧ w.frozen? ⟨g, 0, none⟩ = false ∧ w.frozen? ⟨g, 1, none⟩ = false :=
  ⟨by rw [cell_of_row _ _ _ _ _ (0, 0) h]; rfl, by rw [cell_of_row _ _ _ _ _ (0, 0) h]; rfl, frozen_of_row _ _ _ _ _ h, frozen_of_row _ _ _ _ _ h⟩
theorem Box.set {w : World} {g : Nat} {ng : Bool} {v : Value} (h : Box w g ng v) (b : Bool) (u : Value) : Box ((w.setCell ⟨g, 0, none⟩ (.bool b)).setCell ⟨g, 1, none⟩ u) g b u := by
  have h1 := heap_setCell_same w g 0 _ _ (.bool b) h
  have h2 := heap_setCell_same _ g 1 _ _ u h1
  exact h2
theorem Box.sl {w : World} {g : Nat} {ng : Bool} {ao : Option Addr} {n cap : Nat} (h : Box w g ng (.slice ao n cap)) (b : Bool) (u : Value) {v : Value} {zs : List Int} (hs : Sl w v zs) : Sl ((w.setCell ⟨g, 0, none⟩ (.bool b)).setCell ⟨g, 1, none⟩ u) v zs := by
  refine (hs.setCell h.facts.1 (fun z => by simp) _).setCell (u0 := .slice ao n cap) ?_ (fun z => by simp) _
  rw [World.cell?_setCell_other _ _ _ _ (by simp)]
  exact h.facts.2.1
theorem Box.wh {w : World} {g : Nat} {ng : Bool} {ao : Option Addr} {n cap : Nat} (h : Box w g ng (.slice ao n cap)) (b : Bool) (u : Value) {nz : Bool} {az : Option Addr} {cz : Nat} {rs : List Int} {z : Int} (hs : Wh w nz az cz rs z) : Wh ((w.setCell ⟨g, 0, none⟩ (.bool b)).setCell ⟨g, 1, none⟩ u) nz az cz rs z :=
  ⟨⟨h.sl b u hs.1.1, hs.1.2⟩, hs.2⟩
theorem below_set2 {B : Nat} {w w1 : World} {g : Nat} (hb : Below B w w1) (hg : B ≤ g) (b u : Value) : Below B w ((w1.setCell ⟨g, 0, none⟩ b).setCell ⟨g, 1, none⟩ u) := (hb.setCell hg _).setCell hg _
theorem boxed (w : World) (ng : Bool) (v : Value) : Box (w.alloc (.cells #[.bool ng, v] 77)) w.heap.size ng v ∧ Below w.heap.size w (w.alloc (.cells #[.bool ng, v] 77)) ∧ (w.alloc (.cells #[.bool ng, v] 77)).heap.size = w.heap.size + 1 :=
  ⟨heap_alloc_new w _, (Below.refl _ _).alloc (Nat.le_refl _) _, by simp⟩
theorem boxed1 (w : World) (ng : Bool) (v : Value) : ∃ w0 : World, (w.alloc (.cells #[.bool ng, v] 77)).alloc (.cells #[.bool false, .slice none 0 0] 77) = w0 ∧ Box w0 w.heap.size ng v ∧ Box w0 (w.heap.size + 1) false (.slice none 0 0) ∧ Below w.heap.size w w0 ∧ w0.heap.size = w.heap.size + 2 := by
  have h1 := boxed w ng v
  have h2 := boxed (w.alloc (.cells #[.bool ng, v] 77)) false (.slice none 0 0)
  rw [h1.2.2] at h2
  refine ⟨_, rfl, h1.1.below (by rw [h1.2.2]; exact h2.2.1), h2.1, h1.2.1.trans (h2.2.1.mono (by omega)), h2.2.2⟩
theorem sg_neg (ng : Bool) (x : Int) : sg (!ng) x = - sg ng x := by cases ng <;> simp [sg]
theorem boxed0 (w : World) (ng : Bool) (v : Value) : ∃ w0 : World, w.alloc (.cells #[.bool ng, v] 77) = w0 ∧ Box w0 w.heap.size ng v ∧ Below w.heap.size w w0 ∧ w0.heap.size = w.heap.size + 1 :=
  ⟨_, rfl, (boxed w ng v).1, (boxed w ng v).2.1, (boxed w ng v).2.2⟩
theorem made_w (w : World) (ng : Bool) (ao : Option Addr) (cap : Nat) (ds : List Int) (x : Int) (h : Sl w (.slice ao ds.length cap) ds) (hv : Dm.val ds = x) :
    Calls Tryd.prog 94 #[.bool ng, .slice ao ds.length cap] w fun e w' => ∃ ng' rs, e = .returned (.agg #[.bool ng', .slice ao rs.length cap]) ∧ Wh w' ng' ao cap rs (sg ng x) ∧ rs.length ≤ ds.length ∧ Below w.heap.size w w' := by
  refine (made_any w ng ao ds.length cap ds h).mono ?_
  rintro e w' ⟨rfl, hb⟩
  have hl := h.parts.2.2.2
  have ht := tl_le ds
  have e1 : (ds.take (tl ds)).length = tl ds := by rw [List.length_take]; omega
  have g : Got w' ao cap (ds.take (tl ds)) x := ⟨by rw [e1]; exact (h.take ht).below hb, canon_trim hl, by rw [val_take_tl, hv]⟩
  have g2 := Wh.of ng g
  rw [e1] at g2
  exact ⟨_, ds.take (tl ds), by rw [e1], g2, by omega, hb⟩
end Dm
end Go.Proofs.YtdiiankcjgoecaaDoor

namespace Go.Proofs.YtdiiankcjgoecaaDoor
namespace Dm
open Go.RowKit
open Lm (hide lt_of_cell lt_of_heap cmpI cmpI_lt cmpI_gt)
theorem copied {w : World} {B g n cap : Nat} {zs : List Int} (h : w.ownsRow B 3 1 (.slice (some ⟨g, 0, none⟩) n cap) n ([] ++ zs.map (Value.int .i64))) (hz : Limb zs) : Sl w (.slice (some ⟨g, 0, none⟩) zs.length cap) zs := by
  have hn : zs.length = n := by simpa using h.1
  subst hn
  rw [List.nil_append] at h
  exact (ow_of_row h hz).sl
set_option maxRecDepth 20000 in
set_option maxHeartbeats 1000000 in
theorem minus_some (w : World) (ng : Bool) (a1 : Option Addr) (c1 : Nat) (xs : List Int) (x : Int) (hx : Got w a1 c1 xs x) (m1 : xs.length ≤ 1000000) (h0 : 0 < xs.length) :
    Calls Tryd.prog 85 #[.agg #[.bool ng, .slice a1 xs.length c1]] w fun e w' => ∃ ng' ao cap rs, e = .returned (.agg #[.bool ng', .slice ao rs.length cap]) ∧ Wh w' ng' ao cap rs (sg (!ng) x) ∧ rs.length ≤ xs.length ∧ Below w.heap.size w w' := by
  obtain ⟨b, off, rfl, _⟩ := hx.sl.cells h0
  obtain ⟨w0, e0, bx, br, hb0, hs0⟩ := boxed1 w ng (.slice (some ⟨b, off, none⟩) xs.length c1)
  have E0 := hide e0
  obtain ⟨i0, hi, hz0, hz1, hz2⟩ := info_parts info64
  obtain ⟨_, p1, p2, p3⟩ := hx.sl.parts
  have P3 := hide p3
  have hx0 := hx.below hb0
  have HB := hb0
  clear e0 hs0 p3
  go_enter Tryd.func85, Tryd.ntmps85
  go_wp2_with fail
  rw [E0.out]
  obtain ⟨bx1, bx2, bx3, bx4⟩ := bx.facts
  obtain ⟨br1, br2, br3, br4⟩ := br.facts
  go_region_held3 (fun w' => w'.cell? ⟨w.heap.size, 0, none⟩ = some (.bool ng) ∧ w'.cell? ⟨w.heap.size, 1, none⟩ = some (.slice (some ⟨b, off, none⟩) xs.length c1)) (go_keep) (first
    | (go_at_call 94; refine (made_w _ _ _ _ xs _ (s1.below (by repeat (first | exact Below.refl _ _ | refine Below.drew ?_))) hx.val).mono ?_; rintro e w2 ⟨ng2, r2, rfl, G2, l2, hb2⟩; have hb2' : Below w1.heap.size w1 w2 := (show Below w1.heap.size w1 _ by repeat (first | exact Below.refl _ _ | refine Below.drew ?_)).trans hb2; have HB := HB.trans (hb2'.mono HB.size); replace bx := bx.below hb2'; clear bx1 bx2 bx3 bx4; obtain ⟨bx1, bx2, bx3, bx4⟩ := bx.facts; replace br := br.below hb2'; clear br1 br2 br3 br4; obtain ⟨br1, br2, br3, br4⟩ := br.facts)
    | ((refine step_append_lies _ (by rfl) _ _ _ (by rfl) w0.heap.size 3 i0 _ 1 8 Tryd.underlying75 hi hz0 hz1 hz2 rfl (by omega) (.slice none 0 0) 0 [] (by rfl) (World.ownsRow_nil _ _ _ _) ⟨b, off, none⟩ xs.length c1 (xs.map (Value.int .i64)) (by rfl) (by simp) (Sl.copy (hx0.sl.below (by repeat (first | exact Below.refl _ _ | refine Below.drew ?_)))) (one_cells xs) (by omega) (by unfold maxLen; omega) (by omega) (by simp) w0.heap.size (by simp) ?_; intro g1 q1 w1 hown hgrow hat hlt; have hb1' : Below w0.heap.size w0 w1 := (show Below w0.heap.size w0 _ by repeat (first | exact Below.refl _ _ | refine Below.drew ?_)).grown hgrow (by simp) (by intro k hk; simp [Value.ownBlock] at hk); have HB := HB.trans (hb1'.mono HB.size); have s1 := copied hown P3.out; replace bx := bx.below hb1'; clear bx1 bx2 bx3 bx4; obtain ⟨bx1, bx2, bx3, bx4⟩ := bx.facts; replace br := br.below hb1'; clear br1 br2 br3 br4; obtain ⟨br1, br2, br3, br4⟩ := br.facts)))
  all_goals
    have X := hide (br.set ng2 (.slice (some ⟨g1, 0, none⟩) r2.length q1)).facts
    have Y := hide (br.wh ng2 (.slice (some ⟨g1, 0, none⟩) r2.length q1) G2)
    have Z := hide (below_set2 HB (show w.heap.size ≤ w.heap.size + 1 by omega) (.bool ng2) (.slice (some ⟨g1, 0, none⟩) r2.length q1))
    clear bx1 bx2 bx3 bx4
    go_wp2
    refine bodyPost_ret (v := .agg #[.bool ng2, .slice (some ⟨g1, 0, none⟩) r2.length q1]) ?_ rfl ⟨ng2, (some ⟨g1, 0, none⟩), q1, r2, rfl, Y.out, by omega, Z.out⟩
    simp [results, Tryd.results85, go_sem, X.out.1, X.out.2.1]
theorem sl_nil (w : World) : Sl w (.slice none ([] : List Int).length 0) [] := ⟨none, 0, rfl, Nat.le_refl _, by simp [maxLen], limb_nil, .inl rfl⟩
set_option maxRecDepth 20000 in
set_option maxHeartbeats 1000000 in
theorem minus_nonea (w : World) (ng : Bool) (c1 : Nat) (_hc : c1 ≤ 9223372036854775807) :
    Calls Tryd.prog 85 #[.agg #[.bool ng, .slice none 0 c1]] w fun e w' => ∃ ng' ao cap rs, e = .returned (.agg #[.bool ng', .slice ao rs.length cap]) ∧ Wh w' ng' ao cap rs (sg (!ng) 0) ∧ rs.length ≤ 0 ∧ Below w.heap.size w w' := by
  obtain ⟨w0, e0, bx, br, hb0, hs0⟩ := boxed1 w ng (.slice none 0 c1)
  have E0 := hide e0
  have HB := hb0
  clear e0 hs0
  go_enter Tryd.func85, Tryd.ntmps85
  go_wp2_with fail
  rw [E0.out]
  obtain ⟨bx1, bx2, bx3, bx4⟩ := bx.facts
  obtain ⟨br1, br2, br3, br4⟩ := br.facts
  go_region_held3 (fun w' => w'.cell? ⟨w.heap.size, 0, none⟩ = some (.bool ng) ∧ w'.cell? ⟨w.heap.size, 1, none⟩ = some (.slice none 0 c1)) (go_keep) (first
    | (go_at_call 94; refine (made_w _ _ none 0 [] 0 (sl_nil _) rfl).mono ?_; rintro e w2 ⟨ng2, r2, rfl, G2, l2, hb2⟩; have hb2' : Below w0.heap.size w0 w2 := (show Below w0.heap.size w0 _ by repeat (first | exact Below.refl _ _ | refine Below.drew ?_)).trans hb2; have HB := HB.trans (hb2'.mono HB.size); replace bx := bx.below hb2'; clear bx1 bx2 bx3 bx4; obtain ⟨bx1, bx2, bx3, bx4⟩ := bx.facts; replace br := br.below hb2'; clear br1 br2 br3 br4; obtain ⟨br1, br2, br3, br4⟩ := br.facts))
  all_goals
    have X := hide (br.set ng2 (.slice none r2.length 0)).facts
    have Y := hide (br.wh ng2 (.slice none r2.length 0) G2)
    have Z := hide (below_set2 HB (show w.heap.size ≤ w.heap.size + 1 by omega) (.bool ng2) (.slice none r2.length 0))
    clear bx1 bx2 bx3 bx4
    go_wp2
    refine bodyPost_ret (v := .agg #[.bool ng2, .slice none r2.length 0]) ?_ rfl ⟨ng2, none, 0, r2, rfl, Y.out, by simpa using l2, Z.out⟩
    simp [results, Tryd.results85, go_sem, X.out.1, X.out.2.1]
set_option maxRecDepth 20000 in
set_option maxHeartbeats 1000000 in
theorem minus_noneb (w : World) (ng : Bool) (ad : Addr) (c1 : Nat) (_hc : c1 ≤ 9223372036854775807) :
    Calls Tryd.prog 85 #[.agg #[.bool ng, .slice (some ad) 0 c1]] w fun e w' => ∃ ng' ao cap rs, e = .returned (.agg #[.bool ng', .slice ao rs.length cap]) ∧ Wh w' ng' ao cap rs (sg (!ng) 0) ∧ rs.length ≤ 0 ∧ Below w.heap.size w w' := by
  obtain ⟨w0, e0, bx, br, hb0, hs0⟩ := boxed1 w ng (.slice (some ad) 0 c1)
  have E0 := hide e0
  have HB := hb0
  clear e0 hs0
  go_enter Tryd.func85, Tryd.ntmps85
  go_wp2_with fail
  rw [E0.out]
  obtain ⟨bx1, bx2, bx3, bx4⟩ := bx.facts
  obtain ⟨br1, br2, br3, br4⟩ := br.facts
  go_region_held3 (fun w' => w'.cell? ⟨w.heap.size, 0, none⟩ = some (.bool ng) ∧ w'.cell? ⟨w.heap.size, 1, none⟩ = some (.slice (some ad) 0 c1)) (go_keep) (first
    | (go_at_call 94; refine (made_w _ _ none 0 [] 0 (sl_nil _) rfl).mono ?_; rintro e w2 ⟨ng2, r2, rfl, G2, l2, hb2⟩; have hb2' : Below w0.heap.size w0 w2 := (show Below w0.heap.size w0 _ by repeat (first | exact Below.refl _ _ | refine Below.drew ?_)).trans hb2; have HB := HB.trans (hb2'.mono HB.size); replace bx := bx.below hb2'; clear bx1 bx2 bx3 bx4; obtain ⟨bx1, bx2, bx3, bx4⟩ := bx.facts; replace br := br.below hb2'; clear br1 br2 br3 br4; obtain ⟨br1, br2, br3, br4⟩ := br.facts))
  all_goals
    have X := hide (br.set ng2 (.slice none r2.length 0)).facts
    have Y := hide (br.wh ng2 (.slice none r2.length 0) G2)
    have Z := hide (below_set2 HB (show w.heap.size ≤ w.heap.size + 1 by omega) (.bool ng2) (.slice none r2.length 0))
    clear bx1 bx2 bx3 bx4
    go_wp2
    refine bodyPost_ret (v := .agg #[.bool ng2, .slice none r2.length 0]) ?_ rfl ⟨ng2, none, 0, r2, rfl, Y.out, by simpa using l2, Z.out⟩
    simp [results, Tryd.results85, go_sem, X.out.1, X.out.2.1]
theorem minus_got (w : World) (ng : Bool) (a1 : Option Addr) (c1 : Nat) (xs : List Int) (x : Int) (hx : Got w a1 c1 xs x) (m1 : xs.length ≤ 1000000) :
    Calls Tryd.prog 85 #[.agg #[.bool ng, .slice a1 xs.length c1]] w fun e w' => ∃ ng' ao cap rs, e = .returned (.agg #[.bool ng', .slice ao rs.length cap]) ∧ Wh w' ng' ao cap rs (sg (!ng) x) ∧ rs.length ≤ xs.length ∧ Below w.heap.size w w' := by
  by_cases h0 : 0 < xs.length
  · exact minus_some w ng a1 c1 xs x hx m1 h0
  · have e : xs = [] := List.eq_nil_of_length_eq_zero (by omega)
    have hx0 : x = 0 := by rw [← hx.val, e]; rfl
    have hc := hx.sl.parts.2.2.1
    rw [hx0, e]
    cases a1 with
    | none => exact minus_nonea w ng c1 hc
    | some ad => exact minus_noneb w ng ad c1 hc
theorem minus_g (w : World) (n1 : Bool) (a1 : Option Addr) (c1 : Nat) (xs : List Int) (x : Int) (hx : Wh w n1 a1 c1 xs x) (m1 : xs.length ≤ 1000000) :
    Calls Tryd.prog 85 #[.agg #[.bool n1, .slice a1 xs.length c1]] w fun e w' => ∃ ng' ao cap rs, e = .returned (.agg #[.bool ng', .slice ao rs.length cap]) ∧ Wh w' ng' ao cap rs (-x) ∧ rs.length ≤ xs.length ∧ Below w.heap.size w w' := by
  have wx := hx.worth
  rw [hx.1.val] at wx
  rw [show -x = sg (!n1) (x.natAbs : Int) by rw [sg_neg, wx]]
  exact minus_got w n1 a1 c1 xs _ hx.1 m1
end Dm
end Go.Proofs.YtdiiankcjgoecaaDoor

namespace Go.Proofs.YtdiiankcjgoecaaDoor
namespace Lm
open Go.RowKit
structure Fr (B T : Nat) (w : World) (ao : Option Addr) (cap : Nat) (rs : List Int) (x : Int) : Prop where
  ow : Ow B w (.slice ao rs.length cap) rs
  canon : Canon rs
  val : val rs = x
  lies : 0 < cap → ∀ g off, ao = some ⟨g, off, none⟩ → B ≤ g ∧ g < T
theorem Is.fr {B : Nat} {w : World} {v : Value} {x : Int} (h : Is B w v x) : ∃ ao cap rs, v = .slice ao rs.length cap ∧ Fr B w.heap.size w ao cap rs x := by
  obtain ⟨rs, ho, hc, hv⟩ := h
  obtain ⟨ao, cap, rfl, h1, h2, h3, h4⟩ := ho
  refine ⟨ao, cap, rs, rfl, ⟨ao, cap, rfl, h1, h2, h3, h4⟩, hc, hv, ?_⟩
  intro h0 g off e
  rcases h4 with h4 | ⟨g', off', cur, e', hB, hh, _⟩
  · omega
  · rw [e'] at e
    simp only [Option.some.injEq, Addr.mk.injEq, and_true] at e
    have := lt_of_heap hh
    omega
theorem Fr.got {B T : Nat} {w : World} {ao : Option Addr} {cap : Nat} {rs : List Int} {x : Int} (h : Fr B T w ao cap rs x) : Got w ao cap rs x := ⟨h.ow.sl, h.canon, h.val⟩
theorem Fr.kept {B T : Nat} {w w' : World} {ao : Option Addr} {cap : Nat} {rs : List Int} {x : Int} (h : Fr B T w ao cap rs x) (hk : ∀ g, g < w.heap.size → B ≤ g → g < T → w'.heap[g]? = w.heap[g]?) : Fr B T w' ao cap rs x := by
  obtain ⟨ho, hc, hv, hl⟩ := h
  refine ⟨?_, hc, hv, hl⟩
  obtain ⟨ao', cap', hv', h1, h2, h3, h4⟩ := ho
  obtain ⟨rfl, _, rfl⟩ := (Value.slice.injEq .. ▸ hv')
  refine ⟨ao, cap, rfl, h1, h2, h3, ?_⟩
  rcases h4 with h4 | ⟨g, off, cur, rfl, hB, hh, r⟩
  · exact .inl h4
  · by_cases h0 : 0 < cap
    · have := hl h0 g off rfl
      exact .inr ⟨g, off, cur, rfl, hB, (hk g (lt_of_heap hh) this.1 this.2).trans hh, r⟩
    · exact .inl (by omega)
end Lm
end Go.Proofs.YtdiiankcjgoecaaDoor

namespace Go.Proofs.YtdiiankcjgoecaaDoor
namespace Dm
open Go.RowKit
open Lm (hide lt_of_cell lt_of_heap)
theorem sg_eq (ng : Bool) (x : Int) : sg ng x = Lm.sg ng x := by cases ng <;> simp [sg, Lm.sg]
theorem Wh.nats {w : World} {ao : Option Addr} {cap : Nat} {rs : List Int} {x : Int} (h : Got w ao cap rs x) : Wh w false ao cap rs x := by
  have := Wh.of false h
  simpa [sg] using this
set_option maxRecDepth 20000 in
set_option maxHeartbeats 1000000 in
theorem nof_g (w : World) (ng : Bool) (a1 : Option Addr) (n1 c1 : Nat) (xs : List Int) (hx : Lm.Sl w (.slice a1 n1 c1) xs) (m1 : xs.length ≤ 100000) :
    Calls Tryd.prog 50 #[.agg #[.bool ng, .slice a1 n1 c1]] w fun e w' => ∃ ng' ao cap rs, e = .returned (.agg #[.bool ng', .slice ao rs.length cap]) ∧ Wh w' ng' ao cap rs (Lm.sg ng (Lm.val xs)) ∧ rs.length ≤ 3 * xs.length ∧ Below w.heap.size w w' := by
  obtain ⟨w1, e1, bx, hb1, hs1⟩ := Lm.boxed0 w ng (.slice a1 n1 c1)
  obtain ⟨w2, e2, br, hb2, hs2⟩ := boxed0 w1 false (.slice none 0 0)
  have E1 := hide e1
  have E2 := hide e2
  have HB := hb1.trans (hb2.mono hb1.size)
  replace bx := bx.below hb2
  rw [hs1] at br
  have hx2 := hx.below HB
  have HS : w2.heap.size = w.heap.size + 2 := by omega
  rw [← sg_eq]
  clear e1 e2 hb1 hb2 hs1 hs2
  cases ng with
  | false =>
    go_enter Tryd.func50, Tryd.ntmps50
    go_upto_region 1 with fail
    rw [E1.out, E2.out]
    obtain ⟨bx1, bx2, bx3, bx4⟩ := bx.facts
    go_wp2_with fail
    refine (fromLimbs_any _ _ _ _ xs hx2 (by omega)).mono ?_
    rintro e w3 ⟨p3, q3, D3, rfl, G3, d3, hb3⟩
    obtain ⟨w4, e4, bn, hb4, hs4⟩ := boxed0 w3 false (.slice p3 D3.length q3)
    have E4 := hide e4
    have z3 := hb3.size
    replace HB := (HB.trans (hb3.mono HB.size)).trans (hb4.mono (Nat.le_trans HB.size z3))
    replace bx := (bx.below hb3).below hb4
    replace br := (br.below hb3).below hb4
    replace G3 := G3.below hb4
    clear e4 hb3 hb4 bx1 bx2 bx3 bx4
    go_upto_region 2 with fail
    rw [E4.out]
    obtain ⟨bx1, bx2, bx3, bx4⟩ := bx.facts
    obtain ⟨br1, br2, br3, br4⟩ := br.facts
    obtain ⟨bn1, bn2, bn3, bn4⟩ := bn.facts
    have F := hide (br.set false (.slice p3 D3.length q3)).facts
    have Y := hide (br.wh false (.slice p3 D3.length q3) (Wh.nats G3))
    have Z := hide (below_set2 HB (show w.heap.size ≤ w.heap.size + 1 by omega) (.bool false) (.slice p3 D3.length q3))
    go_wp2
    refine bodyPost_ret (v := .agg #[.bool false, .slice p3 D3.length q3]) ?_ rfl ⟨false, p3, q3, D3, rfl, Y.out, by omega, Z.out⟩
    simp [results, Tryd.results50, go_sem, F.out.1, F.out.2.1]
  | true =>
    go_enter Tryd.func50, Tryd.ntmps50
    go_upto_region 1 with fail
    rw [E1.out, E2.out]
    obtain ⟨bx1, bx2, bx3, bx4⟩ := bx.facts
    go_wp2_with fail
    refine (fromLimbs_any _ _ _ _ xs hx2 (by omega)).mono ?_
    rintro e w3 ⟨p3, q3, D3, rfl, G3, d3, hb3⟩
    obtain ⟨w4, e4, bn, hb4, hs4⟩ := boxed0 w3 false (.slice p3 D3.length q3)
    have E4 := hide e4
    have z3 := hb3.size
    replace HB := (HB.trans (hb3.mono HB.size)).trans (hb4.mono (Nat.le_trans HB.size z3))
    replace bx := (bx.below hb3).below hb4
    replace br := (br.below hb3).below hb4
    replace G3 := G3.below hb4
    clear e4 hb3 hb4 bx1 bx2 bx3 bx4
    go_upto_region 2 with fail
    rw [E4.out]
    obtain ⟨bx1, bx2, bx3, bx4⟩ := bx.facts
    obtain ⟨bn1, bn2, bn3, bn4⟩ := bn.facts
    go_wp2_with fail
    refine (minus_got _ _ _ _ D3 _ G3 (by omega)).mono ?_
    rintro e w5 ⟨n5, p5, q5, D5, rfl, G5, d5, hb5⟩
    replace HB := HB.trans (hb5.mono HB.size)
    replace br := br.below hb5
    clear bx1 bx2 bx3 bx4 bn1 bn2 bn3 bn4 hb5
    obtain ⟨br1, br2, br3, br4⟩ := br.facts
    have F := hide (br.set n5 (.slice p5 D5.length q5)).facts
    have Y := hide (br.wh n5 (.slice p5 D5.length q5) G5)
    have Z := hide (below_set2 HB (show w.heap.size ≤ w.heap.size + 1 by omega) (.bool n5) (.slice p5 D5.length q5))
    go_wp2
    refine bodyPost_ret (v := .agg #[.bool n5, .slice p5 D5.length q5]) ?_ rfl ⟨n5, p5, q5, D5, rfl, Y.out, by omega, Z.out⟩
    simp [results, Tryd.results50, go_sem, F.out.1, F.out.2.1]
theorem nof_z (w : World) (ng : Bool) (a1 : Option Addr) (n1 c1 : Nat) (xs : List Int) (x : Int) (hx : Lm.Ag w ng a1 n1 c1 xs x) (m1 : xs.length ≤ 100000) :
    Calls Tryd.prog 50 #[.agg #[.bool ng, .slice a1 n1 c1]] w fun e w' => ∃ ng' ao cap rs, e = .returned (.agg #[.bool ng', .slice ao rs.length cap]) ∧ Wh w' ng' ao cap rs x ∧ rs.length ≤ 3 * xs.length ∧ Below w.heap.size w w' := by
  have h := nof_g w ng a1 n1 c1 xs hx.sl m1
  rw [hx.worth] at h
  exact h
structure WFr (B T : Nat) (w : World) (ng : Bool) (ao : Option Addr) (cap : Nat) (rs : List Int) (z : Int) : Prop where
  fr : Lm.Fr B T w ao cap rs (z.natAbs : Int)
  sgn : ng = decide (z < 0)
theorem WFr.wh {B T : Nat} {w : World} {ng : Bool} {ao : Option Addr} {cap : Nat} {rs : List Int} {z : Int} (h : WFr B T w ng ao cap rs z) : Lm.Wh w ng ao cap rs z := ⟨h.fr.got, h.sgn⟩
theorem WFr.kept {B T : Nat} {w w' : World} {ng : Bool} {ao : Option Addr} {cap : Nat} {rs : List Int} {z : Int} (h : WFr B T w ng ao cap rs z) (hk : ∀ g, g < w.heap.size → B ≤ g → g < T → w'.heap[g]? = w.heap[g]?) : WFr B T w' ng ao cap rs z := ⟨h.fr.kept hk, h.sgn⟩
theorem WFr.wide {B B' T T' : Nat} {w : World} {ng : Bool} {ao : Option Addr} {cap : Nat} {rs : List Int} {z : Int} (h : WFr B T w ng ao cap rs z) (hB : B' ≤ B) (hT : T ≤ T') : WFr B' T' w ng ao cap rs z :=
  ⟨⟨h.fr.ow.mono hB, h.fr.canon, h.fr.val, fun h0 g off e => by have := h.fr.lies h0 g off e; omega⟩, h.sgn⟩
theorem set2_kept {w : World} {k : Nat} (b u : Value) {g : Nat} (h : g ≠ k) : ((w.setCell ⟨k, 0, none⟩ b).setCell ⟨k, 1, none⟩ u).heap[g]? = w.heap[g]? := by
  rw [heap_setCell_other _ ⟨k, 1, none⟩ g _ h, heap_setCell_other _ ⟨k, 0, none⟩ g _ h]
set_option maxRecDepth 20000 in
set_option maxHeartbeats 1000000 in
theorem told_g (w : World) (ng : Bool) (ao : Option Addr) (cap : Nat) (rs : List Int) (z : Int) (h : Wh w ng ao cap rs z) (M : Nat) (hz : (z.natAbs : Int) < Lm.pw M) (hM : M ≤ 1000000) (hl : rs.length ≤ 1000000) :
    Calls Tryd.prog 46 #[.agg #[.bool ng, .slice ao rs.length cap]] w fun e w' => ∃ bo dap ls, e = .returned (.agg #[.bool ng, .slice bo ls.length dap]) ∧ WFr w.heap.size w'.heap.size w' ng bo dap ls z ∧ ls.length ≤ M ∧ Below w.heap.size w w' := by
  obtain ⟨w1, e1, bx, hb1, hs1⟩ := boxed0 w ng (.slice ao rs.length cap)
  obtain ⟨w2, e2, br, hb2, hs2⟩ := Lm.boxed0 w1 false (.slice none 0 0)
  have E1 := hide e1
  have E2 := hide e2
  have HB := hb1.trans (hb2.mono hb1.size)
  replace bx := bx.below hb2
  rw [hs1] at br
  have h2 := h.below HB
  have HS : w2.heap.size = w.heap.size + 2 := by omega
  have HSG := hide h.2
  have HZ := hide hz
  have ne1 : ¬ (w.heap.size = w.heap.size + 1) := by omega
  have ne2 : ¬ (w.heap.size + 1 = w.heap.size) := by omega
  clear e1 e2 hb1 hb2 hs1 hs2 hz
  go_enter Tryd.func46, Tryd.ntmps46
  go_upto_region 1 with fail
  rw [E1.out, E2.out]
  obtain ⟨bx1, bx2, bx3, bx4⟩ := bx.facts
  obtain ⟨br1, br2, br3, br4⟩ := br.facts
  go_region_held3 (fun w' => w'.cell? ⟨w.heap.size, 0, none⟩ = some (.bool ng) ∧ w'.cell? ⟨w.heap.size, 1, none⟩ = some (.slice ao rs.length cap)) (go_keep) (first
    | (go_at_call 86; refine (limbs_any _ _ _ _ rs _ (h2.1.below (by repeat (first | exact Below.refl _ _ | refine Below.drew ?_))) M HZ.out hM hl).mono ?_; rintro e w1' ⟨v1, rfl, I1, hb1⟩; have hb1' : Below w2.heap.size w2 w1' := (show Below w2.heap.size w2 _ by repeat (first | exact Below.refl _ _ | refine Below.drew ?_)).trans hb1; obtain ⟨p1, q1, r1, rfl, F1⟩ := I1.fr; clear I1; replace bx := bx.below hb1'; clear bx1 bx2 bx3 bx4; obtain ⟨bx1, bx2, bx3, bx4⟩ := bx.facts; replace br := br.below hb1'; clear br1 br2 br3 br4; obtain ⟨br1, br2, br3, br4⟩ := br.facts))
  all_goals
    have HB2 := HB.trans (hb1'.mono HB.size)
    have F := hide (br.set ng (.slice p1 r1.length q1)).facts
    have hkk := lt_of_heap br
    have Y := hide (show WFr w2.heap.size w1'.heap.size _ ng p1 q1 r1 z from (WFr.kept (w := w1') ⟨F1, HSG.out⟩ (fun g _ hg _ => set2_kept (.bool ng) (.slice p1 r1.length q1) (show g ≠ w.heap.size + 1 by omega))))
    have Z := hide (below_set2 HB2 (show w.heap.size ≤ w.heap.size + 1 by omega) (.bool ng) (.slice p1 r1.length q1))
    have LL := hide (Lm.canon_len F1.canon (m := M) (by rw [F1.val]; exact HZ.out))
    clear bx1 bx2 bx3 bx4
    go_wp2
    refine bodyPost_ret (v := .agg #[.bool ng, .slice p1 r1.length q1]) ?_ rfl ⟨p1, q1, r1, rfl, Y.out.wide (by omega) (by simp [World.setCell]), LL.out, Z.out⟩
    simp [results, Tryd.results46, go_sem, F.out.1, F.out.2.1]
end Dm
end Go.Proofs.YtdiiankcjgoecaaDoor

namespace Go.Proofs.YtdiiankcjgoecaaDoor
namespace Dm
open Go Go.RowKit
theorem Sl.rl {w w' : World} {v : Value} {zs : List Int} (h : Sl w v zs) (hr : Lm.Rl w w') : Sl w' v zs := by
  obtain ⟨ao, cap, rfl, h1, h2, h3, h4⟩ := h
  refine ⟨ao, cap, rfl, h1, h2, h3, ?_⟩
  rcases h4 with h4 | ⟨b, off, rfl, hc⟩
  · exact .inl h4
  · exact .inr ⟨b, off, rfl, fun i hi => hr.ints _ _ _ (hc i hi)⟩
theorem Wh.rl {w w' : World} {ng : Bool} {ao : Option Addr} {cap : Nat} {rs : List Int} {z : Int} (h : Wh w ng ao cap rs z) (hr : Lm.Rl w w') : Wh w' ng ao cap rs z := ⟨⟨h.1.1.rl hr, h.1.2⟩, h.2⟩
theorem pw_small (n : Nat) : pw n ≤ Lm.pw n := by
  induction n with
  | zero => simp [pw, Lm.pw]
  | succ n ih =>
    have := pw_pos n
    simp only [pw, Lm.pw]
    omega
theorem Wh.bound {w : World} {ng : Bool} {ao : Option Addr} {cap : Nat} {rs : List Int} {z : Int} {L : Nat} (h : Wh w ng ao cap rs z) (hl : rs.length ≤ L) : (z.natAbs : Int) < Lm.pw L := by
  have h1 := (val_bounds h.1.canon.1).2
  rw [h.1.val] at h1
  have h2 := pw_mono hl
  have h3 := pw_small L
  omega
end Dm
namespace Lm
open Go Go.RowKit
def N2 : BoxTy := ⟨77, .agg #[.bool false, .slice none 0 0], fun v cs => ∃ ng ao n c, v = .agg #[.bool ng, .slice ao n c] ∧ cs = #[.bool ng, .slice ao n c]⟩
theorem N2ok : BoxOk Tryd.prog N2 where
  noInt := by
    rintro v cs ⟨ng, ao, n, c, rfl, rfl⟩ i k z
    match i with
    | 0 => simp
    | 1 => simp
    | i + 2 => simp
  ne := by unfold N2; exact ⟨by decide, by decide⟩
  alloc := fun w => ⟨#[.bool false, .slice none 0 0], ⟨_, _, _, _, rfl, rfl⟩, by unfold N2; go_simp⟩
  box := by
    rintro w v ⟨cs, ng, ao, n, c, rfl, rfl⟩
    exact ⟨_, ⟨_, _, _, _, rfl, rfl⟩, by unfold N2; go_simp⟩
  store := by
    rintro w g v0 v ⟨cs0, ⟨m, bo, p, d, rfl, rfl⟩, hh⟩ ⟨cs, ng, ao, n, c, rfl, rfl⟩
    have hb : Dm.Box w g m (.slice bo p d) := hh
    obtain ⟨b1, b2, b3, b4⟩ := hb.facts
    refine ⟨(w.setCell ⟨g, 0, none⟩ (.bool ng)).setCell ⟨g, 1, none⟩ (.slice ao n c), ?_, ⟨_, ⟨_, _, _, _, rfl, rfl⟩, hb.set ng (.slice ao n c)⟩, ⟨rfl, rfl, rfl, by simp [World.setCell], fun k hk => ?_⟩⟩
    · unfold N2
      go_simp
    · rw [Below.heap_setCell _ _ _ _ (by simpa using hk), Below.heap_setCell _ _ _ _ (by simpa using hk)]
  load := by
    rintro w g v ⟨cs, ⟨ng, ao, n, c, rfl, rfl⟩, hh⟩
    obtain ⟨b1, b2, b3, b4⟩ := (show Dm.Box w g ng (.slice ao n c) from hh).facts
    unfold N2
    go_simp
def OutN (z : Int) (L : Nat) : Says := fun v w => ∃ ng ao cap rs, v = .agg #[.bool ng, .slice ao rs.length cap] ∧ Dm.Wh w ng ao cap rs z ∧ rs.length ≤ L
theorem OutN.mono4 (z : Int) (L : Nat) : Mono4 (OutN z L) := fun _ _ _ hb ⟨ng, ao, cap, rs, e, h, l⟩ => ⟨ng, ao, cap, rs, e, h.rl hb, l⟩
theorem OutN.cs {z : Int} {L : Nat} (v : Value) (w : World) (h : OutN z L v w) : ∃ cs, N2.Cs v cs := by
  obtain ⟨ng, ao, cap, rs, rfl, _⟩ := h
  exact ⟨_, _, _, _, _, rfl, rfl⟩
theorem n2_cs {ng : Bool} {ao : Option Addr} {n c : Nat} : ∃ cs, N2.Cs (.agg #[.bool ng, .slice ao n c]) cs := ⟨_, _, _, _, _, rfl, rfl⟩
theorem outn_eq {v : Value} {w : World} {ng : Bool} {ao : Option Addr} {c : Nat} {rs : List Int} {z : Int} {L : Nat} (h : v = .agg #[.bool ng, .slice ao rs.length c]) (hA : Dm.Wh w ng ao c rs z) (hl : rs.length ≤ L) : OutN z L v w := ⟨_, _, _, _, h, hA, hl⟩
theorem lv_N2 {w : World} {g : Nat} {v : Value} (h : BoxV N2 w g v) : (loadVar 77 ⟨g, 0, none⟩).run Tryd.prog w = .ok v w := by
  obtain ⟨cs, ⟨ng, ao, n, c, rfl, rfl⟩, hh⟩ := h
  obtain ⟨b1, b2, b3, b4⟩ := (show Dm.Box w g ng (.slice ao n c) from hh).facts
  go_simp
section
variable {dst : Option Tmp} {ty : TypeId} {pos : String} {after : Array Edge} {guard : Option (Nat × Bool)} {a : Act} {w : World} {ats : Array TypeId} {i j k g : Nat} {x y z p q : Int} {L L1 L2 : Nat}
theorem has_nof : Has Tryd.prog 50 := by unfold Has; kernel_rfl
theorem op_nof (h : IsW z L (a.eval (.tmp i)) w) (hL : L ≤ 100000) :
    Does Tryd.prog { dst, op := .call { callee := .value (.func 50), args := #[.tmp i], argTypes := ats }, type := ty, pos, after, guard } a.eval w fun v w' => Below w.heap.size w w' ∧ OutN z (3 * L) v w' := by
  obtain ⟨n1, a1, m1, c1, xs, e1, A1, l1⟩ := h
  refine does_call has_nof _ (by simp only [List.map_toArray, List.map_cons, List.map_nil, e1]) ((Dm.nof_z w _ _ _ _ xs z A1 (by omega)).mono ?_)
  rintro e w' ⟨ng, ao, cap, rs, rfl, G, l, hb⟩
  exact ⟨_, rfl, hb, _, _, _, _, rfl, G, by omega⟩
theorem has_nminus : Has Tryd.prog 85 := by unfold Has; kernel_rfl
theorem op_nminus (h : OutN z L (a.eval (.tmp i)) w) (hL : L ≤ 1000000) :
    Does Tryd.prog { dst, op := .call { callee := .value (.func 85), args := #[.tmp i], argTypes := ats }, type := ty, pos, after, guard } a.eval w fun v w' => Below w.heap.size w w' ∧ OutN (-z) L v w' := by
  obtain ⟨ng, ao, cap, rs, e1, W, l⟩ := h
  refine does_call has_nminus _ (by simp only [List.map_toArray, List.map_cons, List.map_nil, e1]) ((Dm.minus_g w _ _ _ _ _ W (by omega)).mono ?_)
  rintro e w' ⟨ng, ao, cap, rs, rfl, G, l, hb⟩
  exact ⟨_, rfl, hb, _, _, _, _, rfl, G, by omega⟩
theorem has_ntold : Has Tryd.prog 46 := by unfold Has; kernel_rfl
theorem op_ntold (h : OutN z L (a.eval (.tmp i)) w) (hL : L ≤ 1000000) :
    Does Tryd.prog { dst, op := .call { callee := .value (.func 46), args := #[.tmp i], argTypes := ats }, type := ty, pos, after, guard } a.eval w fun v w' => Below w.heap.size w w' ∧ OutW z L v w' := by
  obtain ⟨ng, ao, cap, rs, e1, W, l⟩ := h
  refine does_call has_ntold _ (by simp only [List.map_toArray, List.map_cons, List.map_nil, e1]) ((Dm.told_g w _ _ _ _ _ W L (W.bound l) hL (by omega)).mono ?_)
  rintro e w' ⟨bo, dap, ls, rfl, F, l2, hb⟩
  exact ⟨_, rfl, hb, _, _, _, _, rfl, F.wh, l2⟩
end
end Lm
end Go.Proofs.YtdiiankcjgoecaaDoor

namespace Go.Proofs.YtdiiankcjgoecaaDoor
namespace Lm
open Go Go.RowKit
structure Ru (w w' : World) : Prop where
  size : w.heap.size ≤ w'.heap.size
  ints : ∀ (p : Addr) (z : Int), w.cell? p = some (.int .u32 z) → w'.cell? p = some (.int .u32 z)
  rows : ∀ (g : Nat) (cs : Array Value), w.heap[g]? = some (.cells cs 124 (0, 0)) → w'.heap[g]? = some (.cells cs 124 (0, 0))
theorem Ru.of_rl {w w' : World} (h : Rl w w') : Ru w w' := ⟨h.size, fun p z => h.ints p .u32 z, fun g cs => h.rows g cs _ (.inl rfl)⟩
def Mono5 (p : Says) : Prop := ∀ v w w', Ru w w' → p v w → p v w'
structure Xb where
  i : Nat
  m : Nat
  S : Says
section
variable {P : Program} {n : Nat} {Ds : List (Option Nat)} {Ps : List Says} {bx : List Bx} {Xt : List Xb} {a0 : Act} {w0 : World} {l : Array Bool} {a : Act} {w w' : World} {i d : Nat} {v : Value}
end
end Lm
end Go.Proofs.YtdiiankcjgoecaaDoor

namespace Go.Proofs.YtdiiankcjgoecaaDoor
namespace Lm
open Go Go.RowKit
open Dm (WFr)
theorem Ow.ru {B : Nat} {w w' : World} {v : Value} {zs : List Int} (h : Ow B w v zs) (hr : Ru w w') : Ow B w' v zs := by
  obtain ⟨ao, cap, rfl, h1, h2, h3, h4⟩ := h
  refine ⟨ao, cap, rfl, h1, h2, h3, ?_⟩
  rcases h4 with h4 | ⟨g, off, cur, rfl, hB, hh, r⟩
  · exact .inl h4
  · exact .inr ⟨g, off, cur, rfl, hB, hr.rows g cur hh, r⟩
section
variable {P : Program} {o : Oper} {a : Act} {w : World} {Ds : List (Option Nat)} {Rs : List (Nat × Nat × (Value → Value → Prop))} {i : Nat}
end
section
variable {dst : Option Tmp} {ty : TypeId} {pos : String} {after : Array Edge} {guard : Option (Nat × Bool)} {a : Act} {w : World} {ats : Array TypeId} {i j : Nat} {x y z u : Int} {L L1 L2 : Nat}
end
section
variable {dst : Option Tmp} {ty : TypeId} {pos : String} {after : Array Edge} {guard : Option (Nat × Bool)} {a : Act} {w : World} {ats : Array TypeId} {i j : Nat} {x y : Int} {L1 L2 : Nat}
end
end Lm
end Go.Proofs.YtdiiankcjgoecaaDoor

namespace Go.Proofs.YtdiiankcjgoecaaDoor
namespace Lm
open Go.RowKit
theorem row_cells {w : World} {b off : Nat} {zs : List Int} (hc : ∀ i, i < zs.length → w.cell? ⟨b, off + i, none⟩ = some (.int .u32 (zs.getD i 0))) : ∀ j u, (zs.map (Value.int .u32))[j]? = some u → w.cell? ((⟨b, off, none⟩ : Addr).add j) = some u := by
  intro j u hu
  rw [List.getElem?_map] at hu
  have hj : j < zs.length := by
    apply Classical.byContradiction
    intro hn
    rw [List.getElem?_eq_none (by omega)] at hu
    cases hu
  rw [List.getElem?_eq_getElem hj] at hu
  have hcj := hc j hj
  rw [List.getD_eq_getElem?_getD, List.getElem?_eq_getElem hj] at hcj
  rw [show ((⟨b, off, none⟩ : Addr).add j) = ⟨b, off + j, none⟩ from by simp [Addr.add], hcj]
  exact hu
theorem row_one (zs : List Int) : ∀ u ∈ zs.map (Value.int .u32), u.oneCell' = true := by
  intro u hu
  obtain ⟨z, _, rfl⟩ := List.mem_map.1 hu
  rfl
set_option maxRecDepth 20000 in
set_option maxHeartbeats 400000 in
theorem copy_any (w : World) (ao : Option Addr) (n cap : Nat) (xs : List Int) (hx : Sl w (.slice ao n cap) xs) (hl : xs.length ≤ 1000000) :
    Calls Tryd.prog 48 #[.slice ao n cap] w fun e w' => ∃ v, e = .returned v ∧ Ow w.heap.size w' v xs ∧ Below w.heap.size w w' := by
  obtain ⟨rfl, h1, h2, h3⟩ := hx.parts
  obtain ⟨i0, hi, hz0, hz1, hz2⟩ := info_parts info32
  by_cases h0 : 0 < xs.length
  · obtain ⟨b, off, rfl, hc⟩ := hx.cells h0
    have hcells := row_cells hc
    have H3 := hide h3
    clear hc h3 hx
    go_enter Tryd.func48, Tryd.ntmps48
    go_wp2_with (at_builtin; refine wpList_append_own _ rfl (.const (.slice none 0 0)) (.tmp 3) 22 rfl w.heap.size 124 i0 (.int .u32 0) 1 4 Tryd.underlying22 hi hz0 hz1 hz2 rfl (by decide) _ _ _ rfl (World.ownsRow_nil _ _ _ _) ⟨b, off, none⟩ xs.length cap (xs.map (Value.int .u32)) rfl (by simp) hcells (row_one xs) (by unfold maxLen; omega) (by omega) (by simp) ?_)
    intro v' w1 hown hgrow _
    have hb1 : Below w.heap.size w w1 := (Below.refl w.heap.size w).grown hgrow (by simp) (by intro k hk; simp [Value.ownBlock] at hk)
    have how := ow_of_row (zs := xs) (by simpa using hown) H3.out
    clear hown hgrow
    go_wp2
    go_ret
    exact ⟨_, rfl, how, hb1⟩
  · have e : xs = [] := List.eq_nil_of_length_eq_zero (by omega)
    subst e
    cases ao with
    | none =>
      go_enter Tryd.func48, Tryd.ntmps48
      go_wp2
      go_ret
      exact ⟨_, rfl, ⟨none, 0, rfl, Nat.le_refl _, by simp [maxLen], limb_nil, .inl rfl⟩, Below.refl _ _⟩
    | some ad =>
      go_enter Tryd.func48, Tryd.ntmps48
      go_wp2
      go_ret
      exact ⟨_, rfl, ⟨none, 0, rfl, Nat.le_refl _, by simp [maxLen], limb_nil, .inl rfl⟩, Below.refl _ _⟩
end Lm
end Go.Proofs.YtdiiankcjgoecaaDoor

namespace Go.Proofs.YtdiiankcjgoecaaDoor
namespace Lm
open Go Go.RowKit
def OwL (K : Nat) (zs : List Int) : Says := fun v w => ∃ ao cap, v = .slice ao zs.length cap ∧ Ow K w v zs
theorem OwL.mono5 (K : Nat) (zs : List Int) : Mono5 (OwL K zs) := fun _ _ _ hr ⟨ao, cap, e, h⟩ => ⟨ao, cap, e, h.ru hr⟩
theorem OwL.mono4 (K : Nat) (zs : List Int) : Mono4 (OwL K zs) := fun v w w' hr h => OwL.mono5 K zs v w w' (Ru.of_rl hr) h
def OwW (K : Nat) (ng : Bool) (zs : List Int) : Says := fun v w => ∃ ao cap, v = .agg #[.bool ng, .slice ao zs.length cap] ∧ Ow K w (.slice ao zs.length cap) zs
theorem OwW.mono5 (K : Nat) (ng : Bool) (zs : List Int) : Mono5 (OwW K ng zs) := fun _ _ _ hr ⟨ao, cap, e, h⟩ => ⟨ao, cap, e, h.ru hr⟩
theorem OwW.mono4 (K : Nat) (ng : Bool) (zs : List Int) : Mono4 (OwW K ng zs) := fun v w w' hr h => OwW.mono5 K ng zs v w w' (Ru.of_rl hr) h
theorem OwW.cs {K : Nat} {ng : Bool} {zs : List Int} (v : Value) (w : World) (h : OwW K ng zs v w) : ∃ cs, W2.Cs v cs := by
  obtain ⟨ao, cap, rfl, _⟩ := h
  exact ⟨_, _, _, _, _, rfl, rfl⟩
section
variable {dst : Option Tmp} {ty : TypeId} {pos : String} {after : Array Edge} {guard : Option (Nat × Bool)} {a : Act} {w : World} {ats : Array TypeId} {i j : Nat}
theorem has_lcopy0 : Has Tryd.prog 48 := by unfold Has; kernel_rfl
theorem op_lcopyO {K : Nat} {ao : Option Addr} {n c : Nat} {zs : List Int} (h : a.eval (.tmp i) = .slice ao n c) (S : Sl w (.slice ao n c) zs) (hl : zs.length ≤ 1000000) (hK : K ≤ w.heap.size) :
    Does Tryd.prog { dst, op := .call { callee := .value (.func 48), args := #[.tmp i], argTypes := ats }, type := ty, pos, after, guard } a.eval w fun v w' => Below w.heap.size w w' ∧ OwL K zs v w' := by
  refine does_call has_lcopy0 _ (by simp only [List.map_toArray, List.map_cons, List.map_nil, h]) ((copy_any w _ _ _ zs S hl).mono ?_)
  rintro e w' ⟨v, rfl, ho, hb⟩
  refine ⟨_, rfl, hb, ?_⟩
  obtain ⟨ao', cap', hv, _⟩ := id ho
  exact ⟨ao', cap', hv, ho.mono hK⟩
theorem op_bWO {K : Nat} {ng : Bool} {zs : List Int} (h1 : a.eval (.tmp i) = .bool ng) (h2 : OwL K zs (a.eval (.tmp j)) w) :
    Does Tryd.prog { dst, op := .build 24 #[(0, .tmp i), (1, .tmp j)], type := ty, pos, after, guard } a.eval w fun v w' => Below w.heap.size w w' ∧ OwW K ng zs v w' := by
  obtain ⟨ao, cap, e, ho⟩ := h2
  refine (op_bW2 h1 e).mono ?_
  rintro v w' ⟨hb, e'⟩
  exact ⟨hb, ao, cap, e', by rw [← e]; exact ho.below hb⟩
end
set_option maxRecDepth 20000 in
set_option maxHeartbeats 1000000 in
theorem copyw_z (w : World) (nx : Bool) (ax : Option Addr) (mx cx : Nat) (xs : List Int) (Tx : Sl w (.slice ax mx cx) xs) (hl : xs.length ≤ 1000000) :
    Calls Tryd.prog 14 #[.agg #[.bool nx, .slice ax mx cx]] w fun e w' => ∃ v, e = .returned v ∧ OwW w.heap.size nx xs v w' ∧ Below w.heap.size w w' := by
  go_enter Tryd.func14, Tryd.ntmps14
  generalize hA : (Act.mk _ _) = aa
  have hn : aa.tmps.size = 9 := by rw [← hA]; rfl
  have hd : aa.defers = [] := by rw [← hA]
  have f0 : aa.eval (.tmp 0) = .agg #[.bool nx, .slice ax mx cx] := by rw [← hA]; rfl
  clear hA
  have HB : Below w.heap.size w w := Below.refl _ _
  refine wp_seq ?_
  refine region4 [some 1, some 2] [(fun _ _ => True), (fun _ _ => True)] [⟨W2, some 0, 0, 1, .agg #[.bool nx, .slice ax mx cx], none, []⟩, ⟨W2, some 1, 0, 2, .agg #[.bool false, .slice none 0 0], none, []⟩] [] (by kernel_rfl) hn rfl (by kernel_rfl) (by kernel_rfl) (by kernel_rfl) (by kernel_rfl) (by kernel_rfl) (by kernel_rfl) ⟨True.mono4, True.mono4, trivial⟩ (ok_cons W2ok (ok_cons W2ok ok_nil)) (IsOld.all (bx := [⟨W2, some 0, 0, 1, .agg #[.bool nx, .slice ax mx cx], none, []⟩, ⟨W2, some 1, 0, 2, .agg #[.bool false, .slice none 0 0], none, []⟩]) ⟨someNe, someNe, trivial⟩) (DisOld.all (bx := [⟨W2, some 0, 0, 1, .agg #[.bool nx, .slice ax mx cx], none, []⟩, ⟨W2, some 1, 0, 2, .agg #[.bool false, .slice none 0 0], none, []⟩]) ⟨someNe, someNe, trivial⟩) ?_ ?_
  · exact ⟨.alloc 0 _ rfl rfl (.inr ⟨_, rfl, w2_cs, fun a_ hR => (hR 0 rfl).trans f0⟩) rfl rfl rfl rfl rfl,
      .alloc 1 _ rfl rfl (.inl ⟨rfl, rfl⟩) rfl rfl rfl rfl rfl,
      trivial⟩
  intro a1 w1 gs1 hn1 hd1 hBt hr hR hP hX hU
  replace hn := hn1; replace hd := hd1.trans hd
  have ne1_2 : gs1 0 ≠ gs1 1 := hU 0 1 (by simp) (by simp) (by decide)
  have b1 : BoxV W2 w1 (gs1 0) (.agg #[.bool nx, .slice ax mx cx]) := (hX 0 _ rfl).2.2.2
  have f1 := (hX 0 _ rfl).1
  have u1 : w.heap.size ≤ gs1 0 := Nat.le_trans HB.size ((hX 0 _ rfl).2.2.1 (by simp))
  have b2 : BoxV W2 w1 (gs1 1) (.agg #[.bool false, .slice none 0 0]) := (hX 1 _ rfl).2.2.2
  have f2 := (hX 1 _ rfl).1
  have u2 : w.heap.size ≤ gs1 1 := Nat.le_trans HB.size ((hX 1 _ rfl).2.2.1 (by simp))
  replace Tx := Tx.rl hr
  replace HB := HB.trans (hBt.below HB.size (UpOld.all (bx := [⟨W2, some 0, 0, 1, .agg #[.bool nx, .slice ax mx cx], none, []⟩, ⟨W2, some 1, 0, 2, .agg #[.bool false, .slice none 0 0], none, []⟩]) ⟨someNe, someNe, trivial⟩))
  clear hBt hr hR hP hX hU
  refine wp_seq ?_
  refine region4 [some 3, some 4, some 5, some 6, some 7, some 8, none] [Eqs (.pointer (some ⟨gs1 0, 0, none⟩)), Eqs (.bool nx), Eqs (.pointer (some ⟨gs1 0, 1, none⟩)), Eqs (.slice ax mx cx), OwL (w.heap.size) (xs), OwW (w.heap.size) (nx) (xs), (fun _ _ => True)] [⟨W2, none, (gs1 1), 2, .agg #[.bool false, .slice none 0 0], some (6, 8, 5), []⟩] [] (by kernel_rfl) hn rfl (by kernel_rfl) (by kernel_rfl) (by kernel_rfl) (by kernel_rfl) (by kernel_rfl) (by kernel_rfl) ⟨Eqs.mono4 _, Eqs.mono4 _, Eqs.mono4 _, Eqs.mono4 _, OwL.mono4 _ _, OwW.mono4 _ _ _, True.mono4, trivial⟩ (ok_cons W2ok ok_nil) (IsOld.all (bx := [⟨W2, none, (gs1 1), 2, .agg #[.bool false, .slice none 0 0], some (6, 8, 5), []⟩]) ⟨fun _ => ⟨f2, b2⟩, trivial⟩) (DisOld.all (bx := [⟨W2, none, (gs1 1), 2, .agg #[.bool false, .slice none 0 0], some (6, 8, 5), []⟩]) ⟨fun _ => trivial, trivial⟩) ?_ ?_
  · exact ⟨.norm 3 rfl rfl rfl (fun a_ w_ hn_ hBt hr hR hD hO hS => op_fa fa_neg ((hR 1 rfl).trans f1)),
      .norm 4 rfl rfl rfl (fun a_ w_ hn_ hBt hr hR hD hO hS => op_ldneg (show a_.eval (.tmp 3) = .pointer (some ⟨gs1 0, 0, none⟩) from hD 0 rfl) (b1.keep hBt ⟨fun _ => ne1_2.symm, trivial⟩)),
      .norm 5 rfl rfl rfl (fun a_ w_ hn_ hBt hr hR hD hO hS => op_fa fa_mag ((hR 1 rfl).trans f1)),
      .norm 6 rfl rfl rfl (fun a_ w_ hn_ hBt hr hR hD hO hS => op_ldmag (show a_.eval (.tmp 5) = .pointer (some ⟨gs1 0, 1, none⟩) from hD 2 rfl) (b1.keep hBt ⟨fun _ => ne1_2.symm, trivial⟩)),
      .norm 7 rfl rfl rfl (fun a_ w_ hn_ hBt hr hR hD hO hS => op_lcopyO (show a_.eval (.tmp 6) = .slice ax mx cx from hD 3 rfl) (Tx.rl hr) (by omega) (Nat.le_trans HB.size hr.size)),
      .norm 8 rfl rfl rfl (fun a_ w_ hn_ hBt hr hR hD hO hS => op_bWO (show a_.eval (.tmp 4) = .bool nx from hD 1 rfl) (show OwL (w.heap.size) (xs) (a_.eval (.tmp 7)) w_ from hD 4 rfl)),
      .store 0 _ _ _ rfl rfl rfl rfl rfl rfl rfl (fun ia h => by cases h) rfl rfl rfl OwW.cs,
      trivial⟩
  intro a2 w2 gs2 hn2 hd2 hBt hr hR hP hX hU
  replace hn := hn2; replace hd := hd2.trans hd
  obtain ⟨a_3, c_3, e8, O3⟩ : OwW (w.heap.size) (nx) (xs) (a2.eval (.tmp 8)) w2 := hP 5 (by decide)
  have b2 : BoxV W2 w2 ((gs1 1)) (.agg #[.bool nx, .slice a_3 xs.length c_3]) := boxv_old ((hX 0 _ rfl).2.1 rfl) (hX 0 _ rfl).2.2.2 e8
  replace f2 : a2.eval (.tmp 2) = _ := (hR 2 rfl).trans f2
  replace Tx := Tx.rl hr
  replace HB := HB.trans (hBt.below HB.size (UpOld.all (bx := [⟨W2, none, (gs1 1), 2, .agg #[.bool false, .slice none 0 0], some (6, 8, 5), []⟩]) ⟨fun _ => u2, trivial⟩))
  clear hBt hr hR hP hX hU
  refine wp_ret ?_
  repeat (first | refine then_ret ?_ | refine scope_ret ?_ | refine block_ret ?_)
  exact bodyPost_ret (v := .agg #[.bool nx, .slice a_3 xs.length c_3]) (res_c rfl f2 (lv_W2 b2)) hd ⟨_, rfl, ⟨_, _, rfl, O3⟩, HB⟩
section
variable {dst : Option Tmp} {ty : TypeId} {pos : String} {after : Array Edge} {guard : Option (Nat × Bool)} {a : Act} {w : World} {ats : Array TypeId} {i j : Nat}
theorem has_copyw0 : Has Tryd.prog 14 := by unfold Has; kernel_rfl
theorem op_copywO {K : Nat} {ng : Bool} {ao : Option Addr} {n c : Nat} {zs : List Int} (h : a.eval (.tmp i) = .agg #[.bool ng, .slice ao n c]) (S : Sl w (.slice ao n c) zs) (hl : zs.length ≤ 1000000) (hK : K ≤ w.heap.size) :
    Does Tryd.prog { dst, op := .call { callee := .value (.func 14), args := #[.tmp i], argTypes := ats }, type := ty, pos, after, guard } a.eval w fun v w' => Below w.heap.size w w' ∧ OwW K ng zs v w' := by
  refine does_call has_copyw0 _ (by simp only [List.map_toArray, List.map_cons, List.map_nil, h]) ((copyw_z w ng _ _ _ zs S hl).mono ?_)
  rintro e w' ⟨v, rfl, ⟨ao', cap', hv, ho⟩, hb⟩
  exact ⟨_, rfl, hb, ao', cap', hv, ho.mono hK⟩
theorem OwW.is {K : Nat} {ng : Bool} {zs : List Int} {L : Nat} {v : Value} {w : World} (h : OwW K ng zs v w) (hL : zs.length ≤ L) : IsW (sg ng (val zs)) L v w := by
  obtain ⟨ao, cap, rfl, ho⟩ := h
  exact ⟨ng, ao, zs.length, cap, zs, rfl, ⟨ho.sl, rfl⟩, hL⟩
end
end Lm
end Go.Proofs.YtdiiankcjgoecaaDoor

namespace Go.Proofs.YtdiiankcjgoecaaDoor
namespace Dm
open Go.RowKit
open Lm (bytesOf bytesOf_length bytesOf_getD strOf_bytes bytes_strOf bytes_tail tail_val end_dec sizeOf' hide lt_of_cell lt_of_heap IsDec Dig dval p10 p10_pos dig_cons dig_nil dig_drop dval_cons48 dec_step dec_bound dval_bounds isDec_one)
theorem minus_str (ds : List Int) : strOfNums (45 :: ds) = strOfNums [45] ++ strOfNums ds := (str_append [45] ds).symm
set_option maxRecDepth 20000 in
set_option maxHeartbeats 2000000 in
theorem rtext_minus (w : World) (ao : Option Addr) (cap : Nat) (D : List Int) (x : Int) (hD : Got w ao cap D x) (hl : D.length ≤ 100000) (h0 : 0 < D.length) :
    Calls Tryd.prog 49 #[.agg #[.bool true, .slice ao D.length cap]] w fun e w' => ∃ ds, e = .returned (.string (strOfNums (45 :: ds))) ∧ IsDec ds x ∧ Below w.heap.size w w' := by
  obtain ⟨_, h1, h2, h3⟩ := hD.sl.parts
  have hb0 : Below w.heap.size w (w.alloc (.cells #[.bool true, .slice ao D.length cap] 77)) := (Below.refl _ _).alloc (Nat.le_refl _) _
  have sD := hD.sl.below hb0
  obtain ⟨b, off, rfl, hc⟩ := sD.cells h0
  have hne : (((D.length : Nat) : Int) == 0) = false := beq_eq_false_iff_ne.2 (by omega)
  have H3 := hide h3
  have HV := hide hD.val
  have HC := hide hc
  have hxp : Hid (0 < x) := by
    have := val_pos_tl hD.canon.1 (by rw [hD.canon.2]; exact h0)
    rwa [hD.val] at this
  clear h3 hD sD hc
  go_enter Tryd.func49, Tryd.ntmps49
  go_wp2
  go_loop [3, 4] (fun sv iv => ∃ (k : Nat) (T : List Int), k ≤ D.length ∧ iv = .int .i64 k ∧ sv = .string (strOfNums T) ∧ Dig T ∧ T.length = 4 * k ∧ dval T = val (D.take k)) (fun _ iv => D.length - (intOf iv).toNat)
  case atStart => exact ⟨0, [], Nat.zero_le _, rfl, rfl, dig_nil, rfl, by simp [dval, val]⟩
  case round =>
    obtain ⟨k, T, hk, rfl, rfl, hT, hTl, hTv⟩ := hrel
    have HT := hide hT
    have HTL := hide hTl
    have HTV := hide hTv
    clear hT hTl hTv
    by_cases hlt : k < D.length
    · have ck := HC.out k hlt
      have bz := limb_getD H3.out k
      have Hz := hide (take_succ_getD D k hlt)
      generalize D.getD k 0 = z at ck bz Hz
      have d1 : (k : Int) < (D.length : Int) := by omega
      go_wp2
      go_loop [5, 6, 7] (fun vv fv jv => ∃ (j : Nat) (u : Int) (F : List Int), j ≤ 4 ∧ jv = .int .i64 j ∧ vv = .int .i64 u ∧ fv = .string (strOfNums F) ∧ 0 ≤ u ∧ u < p10 (4 - j) ∧ Dig F ∧ F.length = j ∧ dval F + p10 F.length * u = z) (fun _ _ jv => 4 - (intOf jv).toNat)
      case atStart => exact ⟨0, z, [], by omega, rfl, rfl, rfl, bz.1, by rw [show p10 (4 - 0) = 10000 from by decide]; exact bz.2, dig_nil, rfl, by simp [dval, p10]⟩
      case round =>
        obtain ⟨j, u, F, hj, rfl, rfl, rfl, hu0, hu1, hF, hFl, hFv⟩ := hrel
        have HU := hide hu1
        have HF := hide hF
        have HFL := hide hFl
        have HFV := hide hFv
        clear hu1 hF hFl hFv
        by_cases hj4 : j < 4
        · have e1 := digit_str (u % 10) (by omega) (by omega)
          have hu2 : u < 10000 := by
            have h8 := HU.out
            have h9 := Lm.p10_mono (m := 4 - j) (n := 4) (by omega)
            rw [show p10 4 = 10000 from by decide] at h9
            omega
          have hus : (strOfNums F).size ≤ 4 := by rw [strOfNums_size, HFL.out]; omega
          have hus1 : (strOfNums [48 + u % 10]).size ≤ 1 := by rw [strOfNums_size]; simp
          have HFV' := hide (four_step HFV.out)
          have HU' : Hid (0 ≤ u / 10 ∧ u / 10 < p10 (4 - (j + 1))) := by
            obtain ⟨i, hi⟩ : ∃ i, 4 - j = i + 1 := ⟨3 - j, by omega⟩
            have h9 := HU.out
            rw [hi] at h9
            have h10 := dec_bound hu0 h9
            rw [show 4 - (j + 1) = i by omega]
            exact h10
          have HS : Hid (strOfNums [48 + u % 10] ++ strOfNums F = strOfNums ((48 + u % 10) :: F)) := str_append _ _
          go_wp2
          go_round
          case rel => exact ⟨j + 1, u / 10, (48 + u % 10) :: F, by omega, by go_num, rfl, by rw [← HS.out], HU'.out.1, HU'.out.2, dig_cons.2 ⟨by omega, HF.out⟩, by have := HFL.out; simp; omega, HFV'.out⟩
          case measure => simp [intOf]; omega
        · have hj' : j = 4 := by omega
          have hu : u = 0 := by have := HU.out; rw [hj', show p10 (4 - 4) = 1 from by decide] at this; omega
          have hFz : Hid (dval F = z) := by have := HFV.out; rw [hu, Int.mul_zero, Int.add_zero] at this; exact this
          have hFl4 : Hid (F.length = 4) := by have := HFL.out; rw [hj'] at this; exact this
          have HR : Hid (dval (F ++ T) = val (D.take (k + 1))) := by
            refine text_round hFz.out hFl4.out HTV.out HTL.out ?_
            rw [Hz.out, val_snoc, List.length_take, Nat.min_eq_left (by omega)]
          have hus : (strOfNums F).size ≤ 4 := by rw [strOfNums_size, hFl4.out]; omega
          have hus2 : (strOfNums T).size ≤ 400000 := by rw [strOfNums_size, HTL.out]; omega
          have HS : Hid (strOfNums F ++ strOfNums T = strOfNums (F ++ T)) := str_append _ _
          have HDg : Hid (Dig (F ++ T)) := by
            intro c hc
            rcases List.mem_append.1 hc with h | h
            · exact HF.out c h
            · exact HT.out c h
          clear hj' hu
          go_wp2
          go_round
          case rel => exact ⟨k + 1, F ++ T, by omega, by go_num, by rw [← HS.out], HDg.out, by rw [List.length_append, hFl4.out, HTL.out]; omega, HR.out⟩
          case measure => simp [intOf]; omega
    · have hkn : k = D.length := by omega
      have HX : Hid (dval T = x) := by have := HTV.out; rwa [hkn, List.take_of_length_le (Nat.le_refl _), HV.out] at this
      have hTl1 : Hid (1 ≤ T.length) := by have := HTL.out; show _ ≤ _; omega
      have d1 : ¬ (k : Int) < (D.length : Int) := by omega
      have hkb : k ≤ 100000 := by omega
      clear hkn
      go_wp2
      go_loop [3] (fun sv => ∃ t : ByteArray, sv = .string t ∧ 1 ≤ t.size ∧ t.size ≤ 400000 ∧ Dig (bytesOf t) ∧ dval (bytesOf t) = x) (fun sv => sizeOf' sv)
      case atStart => exact ⟨strOfNums T, rfl, by rw [strOfNums_size]; exact hTl1.out, by rw [strOfNums_size, HTL.out]; omega, by rw [bytes_strOf HT.out]; exact HT.out, by rw [bytes_strOf HT.out]; exact HX.out⟩
      case round =>
        obtain ⟨t, rfl, ht1, ht4, htd, htv⟩ := hrel
        have HTD := hide htd
        have HTv := hide htv
        clear htd htv
        by_cases h1t : 1 < t.size
        · have hp : 0 < t.size := by omega
          have hgd := bytesOf_getD t 0 hp
          have h1i : (1 : Int) < (t.size : Int) := by omega
          by_cases hz : ((t[0]'hp).toNat : Int) = 48
          · have hzb : (((t[0]'hp).toNat : Int) == 48) = true := beq_iff_eq.2 hz
            have hes : (t.extract 1 t.size).size = t.size - 1 := by rw [← bytesOf_length, bytes_tail, List.length_drop, bytesOf_length]
            have R : Hid (1 ≤ (t.extract 1 t.size).size ∧ (t.extract 1 t.size).size ≤ 400000 ∧ Dig (bytesOf (t.extract 1 t.size)) ∧ dval (bytesOf (t.extract 1 t.size)) = x) :=
              ⟨by omega, by omega, by rw [bytes_tail]; exact dig_drop HTD.out 1, by rw [bytes_tail]; exact tail_val HTv.out (by rw [hgd, hz])⟩
            have HES := hide hes
            clear hes hz hgd
            go_wp2
            go_round
            case rel => exact ⟨_, rfl, R.out⟩
            case measure => simp only [sizeOf', HES.out]; omega
          · have hzb : (((t[0]'hp).toNat : Int) == 48) = false := beq_eq_false_iff_ne.2 hz
            have HF := hide (end_dec HTD.out HTv.out (by rw [bytesOf_length]; omega) (.inr (by rw [hgd]; exact hz)))
            clear hz hgd
            go_wp2
            go_ret
            exact ⟨bytesOf t, by rw [minus_str, strOf_bytes]; rfl, HF.out, hb0⟩
        · have h1i : ¬ (1 : Int) < (t.size : Int) := by omega
          have HF := hide (end_dec HTD.out HTv.out (by rw [bytesOf_length]; omega) (.inl (by rw [bytesOf_length]; omega)))
          go_wp2
          go_ret
          exact ⟨bytesOf t, by rw [minus_str, strOf_bytes]; rfl, HF.out, hb0⟩
end Dm
end Go.Proofs.YtdiiankcjgoecaaDoor

