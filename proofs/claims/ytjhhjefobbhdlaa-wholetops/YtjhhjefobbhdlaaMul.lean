/-
  The contracts of addTimes and of Mul.
-/
import Derived.Test.YtjhhjefobbhdlaaSub
namespace Go.Proofs.Ytjhhjefobbhdlaa
namespace Lm
open Go.RowKit

theorem mul_bound {x y : Int} (hx : 0 ≤ x ∧ x < 4294967296) (hy : 0 ≤ y ∧ y < 4294967296) : 0 ≤ x * y ∧ x * y ≤ 18446744065119617025 := by
  refine ⟨Int.mul_nonneg hx.1 hy.1, ?_⟩
  have h1 : x * y ≤ 4294967295 * y := Int.mul_le_mul_of_nonneg_right (by omega) hy.1
  omega

theorem times_val {ps Y qs : List Int} {k : Nat} {x y a c s : Int} (hk : qs.length = k) (hy : Y.getD k 0 = y) (ha : ps.getD k 0 = a) (hs : s = x * y + a + c) (h : val qs + pw k * c = vf ps k + x * vf Y k) :
    val (qs ++ [s % 4294967296]) + pw (k + 1) * (s / 4294967296) = vf ps (k + 1) + x * vf Y (k + 1) := by
  rw [val_snoc, vf, vf, ha, hy, hk, pw]
  have e : s = s % 4294967296 + 4294967296 * (s / 4294967296) := by omega
  have e2 : pw k * (s % 4294967296) + 4294967296 * pw k * (s / 4294967296) = pw k * s := by
    rw [Int.mul_comm 4294967296 (pw k), Int.mul_assoc, ← Int.mul_add, ← e]
  have e3 : x * (pw k * y) = pw k * (x * y) := by rw [← Int.mul_assoc, Int.mul_comm x, Int.mul_assoc]
  rw [Int.add_assoc, e2, hs, Int.mul_add, Int.mul_add, Int.mul_add, e3]
  omega

set_option maxRecDepth 20000 in
set_option maxHeartbeats 400000 in
theorem addTimes_any (w0 w : World) (g o n cap c2 : Nat) (cur : Array Value) (ps Y : List Int) (a2 : Option Addr) (x : Int) (hx : 0 ≤ x ∧ x < 4294967296)
    (hh : w.heap[g]? = some (.cells cur 51 (0, 0))) (ha : At cur .u32 o ps) (hp : Limb ps) (hpl : ps.length = n) (hm : n ≤ 1000000)
    (hb : Below w0.heap.size w0 w) (hg : w0.heap.size ≤ g) (hY : Sl w0 (.slice a2 n c2) Y) :
    Calls Try.prog 79 #[.slice (some ⟨g, o, none⟩) n cap, .slice a2 n c2, .int .u32 x] w fun e w' => ∃ qs c cur', e = .returned (.int .u32 c) ∧ (0 ≤ c ∧ c < 4294967296) ∧ val qs + pw n * c = val ps + x * val Y ∧ Limb qs ∧ qs.length = n ∧ Wr w w' g cur' 51 ∧ cur'.size = cur.size ∧ At cur' .u32 o qs ∧ (∀ i, i < o ∨ o + n ≤ i → cur'[i]? = cur[i]?) := by
  obtain ⟨hYl, g1, g2, g3⟩ := hY.parts
  have HP := hide hp
  have HY := hide g3
  have HYL := hide hYl
  have HPL := hide hpl
  have HH := hide hh
  have HA := hide ha
  have hyn : n ≤ Y.length := by omega
  have hpn : n ≤ ps.length := by omega
  clear hp g3 hYl hpl hh ha
  go_enter Try.func79, Try.ntmps79
  go_wp2
  go_loopw [7, 13] (fun cv i wr => ∃ (k : Nat) (c : Int) (qs : List Int) (cur' : Array Value), k ≤ n ∧ cv = .int .u64 c ∧ i = .int .i64 k ∧ (0 ≤ c ∧ c < 4294967296) ∧ qs.length = k ∧ Limb qs ∧ val qs + pw k * c = vf ps k + x * vf Y k ∧ Wr w wr g cur' 51 ∧ cur'.size = cur.size ∧ At cur' .u32 o (qs ++ ps.drop k) ∧ (∀ i, i < o ∨ o + n ≤ i → cur'[i]? = cur[i]?)) (fun _ i _ => n - (intOf i).toNat)
  case atStart => exact ⟨0, 0, [], cur, Nat.zero_le _, rfl, rfl, by omega, rfl, limb_nil, by simp [val, vf, pw], Wr.refl HH.out, rfl, by simpa using HA.out, fun _ _ => rfl⟩
  case round =>
    obtain ⟨k, c, qs, cur', hk, rfl, rfl, hc, hql, hq, hval, hwr, hcs, hat, hout⟩ := hrel
    have HQL := hide hql
    have HQ := hide hq
    have HV := hide hval
    have HW := hide hwr
    have HC := hide hcs
    have HT := hide hat
    have HO := hide hout
    clear hql hq hval hwr hcs hat hout
    by_cases hlt : k < n
    · have sy := HW.out.sl hg hb rfl hY
      obtain ⟨b, off, rfl, hcy⟩ := sy.cells (by omega)
      have cy := hcy k (by omega)
      have hlen : (qs ++ ps.drop k).length = n := by have := HQL.out; have := HPL.out; simp; omega
      have co := HT.out.cell HW.out.here k (by rw [hlen]; omega)
      have e1 : (qs ++ ps.drop k).getD k 0 = ps.getD k 0 := by
        rw [List.getD_eq_getElem?_getD, List.getElem?_append_right (by have := HQL.out; omega), List.getElem?_drop, List.getD_eq_getElem?_getD, HQL.out]
        congr 2
        omega
      rw [e1] at co
      have hfree := HW.out.free (o + k)
      have by' := limb_getD HY.out k
      have ba := limb_getD HP.out k
      obtain ⟨y, hy⟩ : ∃ y, Y.getD k 0 = y := ⟨_, rfl⟩
      obtain ⟨a, hpa⟩ : ∃ a, ps.getD k 0 = a := ⟨_, rfl⟩
      rw [hy] at cy by'
      rw [hpa] at co ba
      have hxy := mul_bound hx by'
      have HV' := hide (times_val (x := x) HQL.out hy hpa rfl HV.out)
      have HT' := hide (HT.out.set k ((x * y + a + c) % 4294967296))
      have HW' := hide (HW.out.set (o + k) (.int .u32 ((x * y + a + c) % 4294967296)))
      have d1 : (k : Int) < (n : Int) := by omega
      clear hlen e1 hy hpa sy hcy
      go_wp2
      go_roundw
      case rel =>
        refine ⟨k + 1, (x * y + a + c) / 4294967296, qs ++ [(x * y + a + c) % 4294967296], _, by omega, rfl, by go_num, by omega, by have := HQL.out; simp; omega, limb_append.2 ⟨HQ.out, limb_cons.2 ⟨by omega, limb_nil⟩⟩, HV'.out, HW'.out, by simpa using HC.out, by rw [← set_snoc qs ps k _ HQL.out (by omega)]; exact HT'.out, fun i hi => ?_⟩
        rw [Array.getElem?_setIfInBounds, if_neg (by omega)]
        exact HO.out i hi
      case measure => simp [intOf]; omega
    · have hkn : k = n := by omega
      subst hkn
      go_wp2
      go_ret
      refine ⟨qs, c, cur', rfl, hc, ?_, HQ.out, HQL.out, HW.out, HC.out, ?_, HO.out⟩
      · rw [HV.out, vf_all ps _ (by have := HPL.out; omega), vf_all Y _ (by have := HYL.out; omega)]
      · have := HT.out
        rwa [List.drop_of_length_le (by have := HPL.out; omega), List.append_nil] at this

/-- The window of a block, and what lies round it, put together again. -/
theorem at_window {cur cur' : Array Value} {k : IntKind} {A W B W' : List Int} (h : At cur k 0 (A ++ W ++ B)) (hw : At cur' k A.length W') (hl : W'.length = W.length) (ho : ∀ i, i < A.length ∨ A.length + W.length ≤ i → cur'[i]? = cur[i]?) : At cur' k 0 (A ++ W' ++ B) := by
  intro i hi
  have hi' : i < A.length + W.length + B.length := by simp at hi; omega
  rw [Nat.zero_add]
  by_cases h1 : i < A.length
  · have e := h i (by simp; omega)
    rw [Nat.zero_add] at e
    rw [ho i (.inl h1), e, List.getD_eq_getElem?_getD, List.getD_eq_getElem?_getD, List.append_assoc, List.append_assoc, List.getElem?_append_left h1, List.getElem?_append_left h1]
  · by_cases h2 : i < A.length + W.length
    · have e := hw (i - A.length) (by omega)
      rw [show A.length + (i - A.length) = i by omega] at e
      rw [e, List.getD_eq_getElem?_getD, List.getD_eq_getElem?_getD, List.append_assoc, List.getElem?_append_right (by omega), List.getElem?_append_left (by omega)]
    · have e := h i (by simp; omega)
      rw [Nat.zero_add] at e
      have e9 : (A ++ W).length = (A ++ W').length := by simp [hl]
      have e8 : (A ++ W).length ≤ i := by simp; omega
      rw [ho i (.inr (by omega)), e, List.getD_eq_getElem?_getD, List.getD_eq_getElem?_getD, List.getElem?_append_right e8, List.getElem?_append_right (by omega), e9]

theorem at_mid {cur : Array Value} {k : IntKind} {A W B : List Int} (h : At cur k 0 (A ++ W ++ B)) : At cur k A.length W := by
  intro i hi
  have e := h (A.length + i) (by simp; omega)
  rw [Nat.zero_add] at e
  rw [e, List.getD_eq_getElem?_getD, List.getD_eq_getElem?_getD, List.append_assoc, List.getElem?_append_right (by omega), Nat.add_sub_cancel_left, List.getElem?_append_left hi]

theorem mul_val {X Y qs rs : List Int} {i : Nat} {x c : Int} (hi : i ≤ qs.length) (hx : X.getD i 0 = x) (hq : val qs = vf X i * val Y) (hr : val rs + pw rs.length * c = val (qs.drop i) + x * val Y) :
    val (qs.take i ++ rs ++ [c]) = vf X (i + 1) * val Y := by
  have h1 : val qs = val (qs.take i) + pw i * val (qs.drop i) := by
    have := val_append (qs.take i) (qs.drop i)
    rw [List.take_append_drop, List.length_take, Nat.min_eq_left hi] at this
    exact this
  rw [val_append, val_append, List.length_append, List.length_take, Nat.min_eq_left hi, pw_add, vf, hx, Int.add_mul, ← hq, h1]
  have h2 : val [c] = c := by simp [val]
  rw [h2, Int.mul_assoc (pw i) x]
  have h3 : pw i * val rs + pw i * pw rs.length * c = pw i * val (qs.drop i) + pw i * (x * val Y) := by
    rw [Int.mul_assoc, ← Int.mul_add, ← Int.mul_add, hr]
  omega

set_option maxRecDepth 20000 in
set_option maxHeartbeats 400000 in
theorem mul_any (w : World) (a1 a2 : Option Addr) (n1 n2 c1 c2 : Nat) (xs ys : List Int) (hx : Sl w (.slice a1 n1 c1) xs) (hy : Sl w (.slice a2 n2 c2) ys) (hm1 : xs.length ≤ 500000) (hm2 : ys.length ≤ 500000) :
    Calls Try.prog 60 #[.slice a1 n1 c1, .slice a2 n2 c2] w fun e w' => ∃ v, e = .returned v ∧ Is w.heap.size w' v (val xs * val ys) ∧ Below w.heap.size w w' := by
  obtain ⟨rfl, h1, h2, h3⟩ := hx.parts
  obtain ⟨rfl, g1, g2, g3⟩ := hy.parts
  have t1 := tl_le xs
  have t2 := tl_le ys
  have sx := hx.cut
  have sy := hy.cut
  have HX := hide (show (xs.take (tl xs)).length = tl xs by simp; omega)
  have HY := hide (show (ys.take (tl ys)).length = tl ys by simp; omega)
  have VX := hide (val_take_tl xs)
  have VY := hide (val_take_tl ys)
  have LX := hide (limb_take h3 (tl xs))
  have LY := hide (limb_take g3 (tl ys))
  obtain ⟨i0, hi, hz0, hz1, hz2⟩ := info_parts info32
  generalize xs.take (tl xs) = X at sx HX VX LX
  generalize ys.take (tl ys) = Y at sy HY VY LY
  clear h3 g3
  go_enter Try.func60, Try.ntmps60
  go_wp2_with fail
  refine (cut_any w a1 _ c1 xs hx).mono ?_
  rintro e w' ⟨rfl, rfl⟩
  go_wp2_with fail
  refine (cut_any _ a2 _ c2 ys hy).mono ?_
  rintro e w' ⟨rfl, rfl⟩
  go_wp2_with (refine wpList_make_full _ rfl (.tmp 16) (.tmp 16) 22 rfl w'.heap.size 51 i0 (.int .u32 0) 1 Try.underlying22 hi hz0 hz1 .i64 .i64 _ _ (tl xs + tl ys) rfl rfl (by omega) (by omega) (by rw [hz2]; omega) (by unfold maxLen; omega) (Nat.le_refl _) ?hK)
  case hK =>
    intro w1 hown hgrow
    obtain ⟨_, cur, hh, hcs, hat⟩ := block_of_made hown
    have hb1 : Below w'.heap.size w' w1 := (Below.refl w'.heap.size w').grown hgrow (Nat.le_refl _) (by simp)
    have HH := hide hh
    have HS := hide hcs
    have HA := hide hat
    clear hown hgrow hh hcs hat
    go_wp2
    go_loopw [20] (fun i wr => ∃ (k : Nat) (qs : List Int) (cur' : Array Value), k ≤ tl xs ∧ i = .int .i64 k ∧ qs.length = k + tl ys ∧ Limb qs ∧ val qs = vf X k * val Y ∧ Wr w1 wr w'.heap.size cur' 51 ∧ cur'.size = tl xs + tl ys ∧ At cur' .u32 0 (qs ++ (List.replicate (tl xs + tl ys) 0).drop (k + tl ys))) (fun i _ => tl xs - (intOf i).toNat)
    case atStart =>
      refine ⟨0, List.replicate (tl ys) 0, cur, Nat.zero_le _, rfl, by simp, limb_zeros _, by rw [val_zeros, vf, Int.zero_mul], Wr.refl HH.out, HS.out, ?_⟩
      have e : List.replicate (tl ys) (0 : Int) ++ (List.replicate (tl xs + tl ys) 0).drop (0 + tl ys) = List.replicate (tl xs + tl ys) 0 := by
        rw [List.drop_replicate, List.replicate_append_replicate]
        congr 1
        omega
      rw [e]
      exact HA.out
    case round =>
      obtain ⟨k, qs, cur', hk, rfl, hql, hq, hval, hwr, hcs, hat⟩ := hrel
      have HQL := hide hql
      have HQ := hide hq
      have HV := hide hval
      have HW := hide hwr
      have HC := hide hcs
      have HT := hide hat
      clear hql hq hval hwr hcs hat
      by_cases hlt : k < tl xs
      · have sx' := HW.out.sl (Nat.le_refl _) hb1 rfl sx
        obtain ⟨b, off, rfl, hcx⟩ := sx'.cells (by have := HX.out; omega)
        have cx := hcx k (by have := HX.out; omega)
        have bx := limb_getD LX.out k
        obtain ⟨x, hxk⟩ : ∃ x, X.getD k 0 = x := ⟨_, rfl⟩
        rw [hxk] at cx bx
        have HXK := hide hxk
        have esp : qs = qs.take k ++ qs.drop k := (List.take_append_drop k qs).symm
        have hat2 : At cur' .u32 0 (qs.take k ++ qs.drop k ++ (List.replicate (tl xs + tl ys) 0).drop (k + tl ys)) := by rw [← esp]; exact HT.out
        have htk : (qs.take k).length = k := by have := HQL.out; rw [List.length_take]; omega
        have hdk : (qs.drop k).length = tl ys := by have := HQL.out; rw [List.length_drop]; omega
        have hmid := at_mid hat2
        rw [htk] at hmid
        have kt := hide (addTimes_any w' wr w'.heap.size k (tl ys) (tl xs + tl ys - k) c2 cur' (qs.drop k) Y a2 x bx HW.out.here hmid (limb_drop HQ.out k) hdk (by omega) (hb1.trans (HW.out.below (Nat.le_refl _))) (Nat.le_refl _) sy)
        have H2 := hide hat2
        have HTK := hide htk
        have HDK := hide hdk
        clear hxk esp hat2 htk hdk hmid sx' hcx
        go_wp2_with fail
        refine (kt.out).mono ?_
        rintro e w2 ⟨rs, c, cur2, rfl, hc, hv, hr, hrl, hwr2, hcs2, hat3, hout⟩
        have hat4 := at_window H2.out (by rw [HTK.out]; exact hat3) (by rw [hrl, HDK.out]) (by rw [HTK.out, HDK.out]; exact hout)
        have hl2 : (qs.take k ++ rs).length = k + tl ys := by rw [List.length_append, HTK.out, hrl]
        have hcell := hat4.cell hwr2.here (k + tl ys) (by rw [List.length_append, hl2]; simp; omega)
        rw [Nat.zero_add] at hcell
        generalize (qs.take k ++ rs ++ (List.replicate (tl xs + tl ys) (0 : Int)).drop (k + tl ys)).getD (k + tl ys) 0 = old at hcell
        have hfree := hwr2.free (k + tl ys)
        have hat5 := hat4.set (k + tl ys) c
        rw [set_snoc _ _ _ c hl2 (by simp; omega), Nat.zero_add] at hat5
        have H5 := hide hat5
        have HW2 := hide ((HW.out.trans hwr2).set (k + tl ys) (.int .u32 c))
        have HL2 := hide hl2
        have HC2 := hide (hcs2.trans HC.out)
        have HR := hide hr
        have HV2 := hide (mul_val (X := X) (Y := Y) (i := k) (by have := HQL.out; omega) HXK.out HV.out (by rw [hrl]; exact hv))
        clear hat4 hat5 hl2 hwr2 hcs2 hr hrl hat3 hout hv
        go_wp2
        go_roundw
        case rel => exact ⟨k + 1, qs.take k ++ rs ++ [c], _, by omega, by go_num, by have := HL2.out; simp at this ⊢; omega, limb_append.2 ⟨limb_append.2 ⟨limb_take HQ.out k, HR.out⟩, limb_cons.2 ⟨hc, limb_nil⟩⟩, HV2.out, HW2.out, by simpa using HC2.out, by rw [show k + 1 + tl ys = k + tl ys + 1 by omega]; exact H5.out⟩
        case measure => simp [intOf]; omega
      · have hkn : k = tl xs := by omega
        subst hkn
        have hat2 := HT.out
        rw [List.drop_of_length_le (by simp), List.append_nil] at hat2
        have how : Ow w'.heap.size wr (.slice (some ⟨w'.heap.size, 0, none⟩) (tl xs + tl ys) (tl xs + tl ys)) qs := by
          have := HQL.out
          exact ⟨_, tl xs + tl ys, by rw [this], by omega, by unfold maxLen; omega, HQ.out, .inr ⟨_, 0, _, rfl, Nat.le_refl _, HW.out.here, by rw [HC.out]; omega, hat2⟩⟩
        have hbel : Below w'.heap.size w' wr := hb1.trans (HW.out.below (Nat.le_refl _))
        have his := how.is_cut (x := val xs * val ys) (by rw [HV.out, vf_all X _ (by have := HX.out; omega), VX.out, VY.out])
        clear hat2
        go_wp2_with fail
        refine (cut_any _ _ _ _ _ how.sl).mono ?_
        rintro e w2 ⟨rfl, rfl⟩
        go_wp2
        go_ret
        exact ⟨_, rfl, his, hbel⟩

end Lm
end Go.Proofs.Ytjhhjefobbhdlaa
