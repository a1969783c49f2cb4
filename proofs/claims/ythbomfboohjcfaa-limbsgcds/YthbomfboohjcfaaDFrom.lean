/-
  The contracts of the reference's cutBy, made, FromLimbs.
-/
import Derived.Test.YthbomfboohjcfaaDSmall
import Derived.Test.YthbomfboohjcfaaWrap
namespace Go.Proofs.Ythbomfboohjcfaa
namespace Dm
open Go.RowKit
open Lm (hide lt_of_cell lt_of_heap div_of)

theorem block_of_made {w : World} {B g n : Nat} (h : w.ownsRow B 3 1 (.slice (some ⟨g, 0, none⟩) n n) n (madeCells #[Value.int .i64 0] n).toList) :
    B ≤ g ∧ ∃ cur, w.heap[g]? = some (.cells cur 3 (0, 0)) ∧ cur.size = n ∧ At cur .i64 0 (List.replicate n 0) := by
  rcases h.2 with ⟨h', _⟩ | ⟨g', cap', cur, h', hb, hg, _, _, hs, htake⟩
  · simp at h'
  · simp only [Value.slice.injEq, Option.some.injEq, Addr.mk.injEq, and_true, true_and] at h'
    obtain ⟨rfl, rfl⟩ := h'
    refine ⟨hb, cur, hg, by omega, fun i hi => ?_⟩
    simp at hi
    have e : (cur.toList.take (n * 1))[i]? = ((madeCells #[Value.int .i64 0] n).toList)[i]? := by rw [htake]
    rw [List.getElem?_take, if_pos (by omega)] at e
    rw [Nat.zero_add, ← Array.getElem?_toList, e, Array.getElem?_toList]
    have h0 : i < (Array.range n).size := by simpa using hi
    simp [madeCells, hi, List.getD_eq_getElem?_getD, Nat.mod_one]

theorem div_step {p r z d : Int} (hd : 0 < d) (h1 : 0 ≤ r) (h2 : r < d) (h3 : 0 ≤ z) (h4 : z < 10000) (hp : p = r * 10000 + z) : 0 ≤ p ∧ 0 ≤ p / d ∧ p / d < 10000 ∧ 0 ≤ p % d ∧ p % d < d ∧ p = p / d * d + p % d := by
  have h5 : 0 ≤ p := by omega
  have h6 : p < 10000 * d := by omega
  refine ⟨h5, Int.ediv_nonneg h5 (by omega), Int.ediv_lt_of_lt_mul hd h6, Int.emod_nonneg _ (by omega), Int.emod_lt_of_pos _ hd, ?_⟩
  have := Int.mul_ediv_add_emod p d
  rw [Int.mul_comm] at this
  omega

theorem div_val {zs qs : List Int} {k : Nat} {d r z p : Int} (hz : zs.drop k = z :: zs.drop (k + 1)) (h : val (zs.drop (k + 1)) = val qs * d + r) (hp : p = r * 10000 + z) (hq : p = p / d * d + p % d) : val (zs.drop k) = val (p / d :: qs) * d + p % d := by
  rw [hz, val, val, h]
  generalize p / d = q at hq ⊢
  generalize p % d = t at hq ⊢
  rw [Int.add_mul, Int.mul_assoc, Int.mul_add]
  generalize q * d = a at hq ⊢
  generalize val qs * d = b
  omega

set_option maxRecDepth 20000 in
set_option maxHeartbeats 1000000 in
theorem cutBy_any (w : World) (ao : Option Addr) (n cap : Nat) (A : List Int) (hA : Sl w (.slice ao n cap) A) (d : Int) (hd : 0 < d) (hd2 : d ≤ 4294967296) (hl : A.length ≤ 1000000) :
    Calls Try.prog 64 #[.slice ao n cap, .int .i64 d] w fun e w' => ∃ v, e = .returned (.tuple #[v, .int .i64 (val A % d)]) ∧ Is w.heap.size w' v (val A / d) ∧ Below w.heap.size w w' := by
  obtain ⟨rfl, h1, h2, h3⟩ := hA.parts
  obtain ⟨i0, hi, hz0, hz1, hz2⟩ := info_parts info64
  have H3 := hide h3
  clear h3
  go_enter Try.func64, Try.ntmps64
  go_wp2_with (refine wpList_make_full _ rfl (.tmp 10) (.tmp 10) 54 rfl w.heap.size 3 i0 (.int .i64 0) 1 Try.underlying54 hi hz0 hz1 .i64 .i64 _ _ A.length rfl rfl (by omega) (by omega) (by rw [hz2]; omega) (by unfold maxLen; omega) (Nat.le_refl _) ?hK)
  case hK =>
    intro w1 hown hgrow
    obtain ⟨_, cur, hh, hcs, hat⟩ := block_of_made hown
    have hb1 : Below w.heap.size w w1 := (Below.refl w.heap.size w).grown hgrow (Nat.le_refl _) (by simp)
    have HH := hide hh
    have HS := hide hcs
    have HA := hide hat
    clear hown hgrow hh hcs hat
    go_wp2
    go_loopw [7, 8] (fun rest i wr => ∃ (k : Nat) (r : Int) (qs : List Int) (cur' : Array Value), k ≤ A.length ∧ rest = .int .i64 r ∧ i = .int .i64 ((k : Int) - 1) ∧ 0 ≤ r ∧ r < d ∧ val (A.drop k) = val qs * d + r ∧ Limb qs ∧ qs.length + k = A.length ∧ Wr w1 wr w.heap.size cur' 3 ∧ cur'.size = A.length ∧ At cur' .i64 0 ((List.replicate A.length 0).take k ++ qs)) (fun _ i _ => (intOf i + 1).toNat)
    case atStart => exact ⟨A.length, 0, [], cur, Nat.le_refl _, rfl, rfl, by omega, by omega, by simp [val], limb_nil, by simp, Wr.refl HH.out, HS.out, by rw [List.take_of_length_le (by simp), List.append_nil]; exact HA.out⟩
    case round =>
      obtain ⟨k, r, qs, cur', hk, rfl, rfl, hr0, hr1, hval, hq, hql, hwr, hcs, hat⟩ := hrel
      have HV := hide hval
      have HQ := hide hq
      have HW := hide hwr
      have HT := hide hat
      have HC := hide hcs
      have HL := hide hql
      clear hval hq hwr hat hcs hql
      cases k with
      | zero =>
        have hat0 := HT.out
        rw [List.take_zero, List.nil_append] at hat0
        have hv0 := HV.out
        rw [List.drop_zero] at hv0
        have hdv := div_of hd hv0 hr0 hr1
        have how : Ow w.heap.size wr (.slice (some ⟨w.heap.size, 0, none⟩) A.length A.length) qs := by
          have := HL.out
          exact ⟨_, A.length, by rw [show qs.length = A.length by omega], by omega, by unfold maxLen; omega, HQ.out, .inr ⟨_, 0, _, rfl, Nat.le_refl _, HW.out.here, by rw [HC.out]; omega, hat0⟩⟩
        have hbel : Below w.heap.size w wr := hb1.trans (HW.out.below (Nat.le_refl _))
        have his := how.is_cut hdv.1.symm
        have HR := hide hdv.2
        clear hat0 hv0 hdv
        go_wp2_with fail
        refine (cut_any _ _ _ _ _ how.sl).mono ?_
        rintro e w2 ⟨rfl, rfl⟩
        go_wp2
        go_ret2
        refine ⟨_, ?_, his, hbel⟩
        rw [HR.out]
        rfl
      | succ k =>
        have sA := HW.out.sl (Nat.le_refl _) hb1 rfl hA
        obtain ⟨b, off, rfl, hca⟩ := sA.cells (by omega)
        have ca := hca k (by omega)
        have hz := limb_getD H3.out k
        have Hz := hide (drop_getD A k (by omega))
        generalize A.getD k 0 = z at ca hz Hz
        have hlen : ((List.replicate A.length (0 : Int)).take (k + 1) ++ qs).length = A.length := by have := HL.out; rw [List.length_append, List.length_take, List.length_replicate]; omega
        have hcell := HT.out.cell HW.out.here k (by rw [hlen]; omega)
        rw [Nat.zero_add] at hcell
        generalize ((List.replicate A.length (0 : Int)).take (k + 1) ++ qs).getD k 0 = old at hcell
        have hfree := HW.out.free k
        obtain ⟨s1, s2, s3, s4, s5, s6⟩ := div_step hd hr0 hr1 hz.1 hz.2 rfl
        have HV' := hide (div_val Hz.out HV.out rfl s6)
        have HQ' : Hid (Limb ((r * 10000 + z) / d :: qs)) := limb_cons.2 ⟨⟨s2, s3⟩, HQ.out⟩
        have HT' := hide ((HT.out.set k ((r * 10000 + z) / d)))
        have HW' := hide (HW.out.set k (.int .i64 ((r * 10000 + z) / d)))
        have t1 : (r * 10000 + z).tdiv d = (r * 10000 + z) / d := Int.tdiv_eq_ediv_of_nonneg s1
        clear s6 hlen sA hca
        go_wp2
        go_roundw
        case rel => exact ⟨k, (r * 10000 + z) % d, (r * 10000 + z) / d :: qs, _, by omega, rfl, rfl, s4, s5, HV'.out, HQ'.out, by have := HL.out; simp; omega, HW'.out, by simpa using HC.out, by rw [← set_cons _ qs k _ (by rw [List.length_replicate]; omega)]; simpa using HT'.out⟩
        case measure => simp [intOf]

set_option maxRecDepth 20000 in
set_option maxHeartbeats 400000 in
theorem made_any (w : World) (ng : Bool) (ao : Option Addr) (n cap : Nat) (A : List Int) (hA : Sl w (.slice ao n cap) A) :
    Calls Try.prog 66 #[.bool ng, .slice ao n cap] w fun e w' => e = .returned (.agg #[.bool (ng && decide (0 < tl A)), .slice ao (tl A) cap]) ∧ Below w.heap.size w w' := by
  have hb0 : Below w.heap.size w (w.alloc (.cells #[.bool false, .slice none 0 0] 56)) := (Below.refl _ _).alloc (Nat.le_refl _) _
  have kc := hide (cut_any _ _ _ _ _ (hA.below hb0))
  go_enter Try.func66, Try.ntmps66
  go_wp2_with fail
  refine (kc.out).mono ?_
  rintro e w' ⟨rfl, rfl⟩
  cases ng with
  | false =>
    go_wp2
    refine bodyPost_ret (v := .agg #[.bool false, .slice ao (tl A) cap]) (by simp [results, Try.results66, go_sem]) rfl ⟨by simp, ?_⟩
    exact (Below.refl _ _).alloc (Nat.le_refl _) _
  | true =>
    by_cases h0 : 0 < tl A
    · have h1 : (0 : Int) < ((tl A : Nat) : Int) := by omega
      have h2 : Hid (decide (0 < tl A) = true) := by simpa [Hid] using h0
      go_wp2
      refine bodyPost_ret (v := .agg #[.bool true, .slice ao (tl A) cap]) (by simp [results, Try.results66, go_sem]) rfl ⟨by rw [h2.out]; rfl, ?_⟩
      exact (Below.refl _ _).alloc (Nat.le_refl _) _
    · have h1 : ¬ (0 : Int) < ((tl A : Nat) : Int) := by omega
      have h2 : Hid (decide (0 < tl A) = false) := by simpa [Hid] using h0
      go_wp2
      refine bodyPost_ret (v := .agg #[.bool false, .slice ao (tl A) cap]) (by simp [results, Try.results66, go_sem]) rfl ⟨by rw [h2.out]; rfl, ?_⟩
      exact (Below.refl _ _).alloc (Nat.le_refl _) _

/-- The slice reads as digits without those 0 on top that are worth x. -/
def Got (w : World) (ao : Option Addr) (cap : Nat) (rs : List Int) (x : Int) : Prop := Sl w (.slice ao rs.length cap) rs ∧ Canon rs ∧ val rs = x

theorem Got.sl {w : World} {ao : Option Addr} {cap : Nat} {rs : List Int} {x : Int} (h : Got w ao cap rs x) : Sl w (.slice ao rs.length cap) rs := h.1
theorem Got.canon {w : World} {ao : Option Addr} {cap : Nat} {rs : List Int} {x : Int} (h : Got w ao cap rs x) : Canon rs := h.2.1
theorem Got.val {w : World} {ao : Option Addr} {cap : Nat} {rs : List Int} {x : Int} (h : Got w ao cap rs x) : Dm.val rs = x := h.2.2
theorem Got.below {w w' : World} {ao : Option Addr} {cap : Nat} {rs : List Int} {x : Int} (h : Got w ao cap rs x) (hb : Below w.heap.size w w') : Got w' ao cap rs x := ⟨h.1.below hb, h.2⟩

theorem Is.got {B : Nat} {w : World} {v : Value} {x : Int} (h : Is B w v x) : ∃ ao cap rs, v = .slice ao rs.length cap ∧ Got w ao cap rs x := by
  obtain ⟨rs, ho, hc, hv⟩ := h
  obtain ⟨ao, cap, rfl, h1, h2, h3, h4⟩ := ho.sl
  exact ⟨ao, cap, rs, rfl, ⟨ao, cap, rfl, h1, h2, h3, h4⟩, hc, hv⟩

theorem canon_len {rs : List Int} (h : Canon rs) {m : Nat} (hv : val rs < pw m) : rs.length ≤ m := by
  apply Classical.byContradiction
  intro hn
  have h1 := canon_low h (by intro e; subst e; simp at hn)
  have h2 := pw_mono (m := m) (n := rs.length - 1) (by omega)
  omega

/-- The powers of 2^32 are below those of 10000 to the 3. -/
theorem pw_three (n : Nat) : Lm.pw n ≤ pw (3 * n) := by
  induction n with
  | zero => simp [Lm.pw, pw]
  | succ n ih =>
    rw [show 3 * (n + 1) = 3 * n + 3 by omega]
    simp only [Lm.pw, pw]
    have := Lm.pw_pos n
    omega

theorem len_three {rs : List Int} (h : Canon rs) {xs : List Int} (hx : Lm.Limb xs) (hv : val rs ≤ Lm.val xs) : rs.length ≤ 3 * xs.length := by
  apply canon_len h
  have := (Lm.val_bounds hx).2
  have := pw_three xs.length
  omega

/-- A made number, its digits as they stand, since none is 0 on top. -/
theorem made_g (w : World) (ao : Option Addr) (cap : Nat) (A : List Int) (x : Int) (hA : Got w ao cap A x) :
    Calls Try.prog 66 #[.bool false, .slice ao A.length cap] w fun e w' => e = .returned (.agg #[.bool false, .slice ao A.length cap]) ∧ Below w.heap.size w w' := by
  refine (made_any w false ao A.length cap A hA.sl).mono ?_
  rintro e w' ⟨rfl, hb⟩
  rw [hA.canon.2]
  exact ⟨by simp, hb⟩

theorem Sl.setCell {w : World} {v : Value} {zs : List Int} (h : Sl w v zs) {p : Addr} {u0 : Value} (hp : w.cell? p = some u0) (hne : ∀ z, u0 ≠ .int .i64 z) (u : Value) : Sl (w.setCell p u) v zs := by
  obtain ⟨ao, cap, rfl, h1, h2, h3, h4⟩ := h
  refine ⟨ao, cap, rfl, h1, h2, h3, ?_⟩
  rcases h4 with h4 | ⟨b, off, rfl, hc⟩
  · exact .inl h4
  · refine .inr ⟨b, off, rfl, fun i hi => ?_⟩
    have hd : p ≠ ⟨b, off + i, none⟩ := by
      intro e
      have h5 := hc i hi
      rw [← e, hp] at h5
      exact hne _ (Option.some.inj h5)
    rw [World.cell?_setCell_other _ _ _ _ hd]
    exact hc i hi

set_option maxRecDepth 20000 in
set_option maxHeartbeats 1000000 in
theorem fromLimbs_any (w : World) (ao : Option Addr) (n cap : Nat) (xs : List Int) (hx : Lm.Sl w (.slice ao n cap) xs) (hl : xs.length ≤ 300000) :
    Calls Try.prog 43 #[.slice ao n cap] w fun e w' => ∃ ao' cap' D, e = .returned (.agg #[.bool false, .slice ao' D.length cap']) ∧ Got w' ao' cap' D (Lm.val xs) ∧ D.length ≤ 3 * xs.length ∧ Below w.heap.size w w' := by
  obtain ⟨rfl, h1, h2, h3⟩ := hx.parts
  have H3 := hide h3
  have c0 : (w.alloc (.cells #[.bool false, .slice none 0 0] 56)).cell? ⟨w.heap.size, 0, none⟩ = some (.bool false) := by
    rw [cell_of_row _ _ _ _ _ (0, 0) (heap_alloc_new w _)]; rfl
  have c1 : (w.alloc (.cells #[.bool false, .slice none 0 0] 56)).cell? ⟨w.heap.size, 1, none⟩ = some (.slice none 0 0) := by
    rw [cell_of_row _ _ _ _ _ (0, 0) (heap_alloc_new w _)]; rfl
  have f0 : (w.alloc (.cells #[.bool false, .slice none 0 0] 56)).frozen? ⟨w.heap.size, 0, none⟩ = false := frozen_of_row _ _ _ _ _ (heap_alloc_new w _)
  have f1 : (w.alloc (.cells #[.bool false, .slice none 0 0] 56)).frozen? ⟨w.heap.size, 1, none⟩ = false := frozen_of_row _ _ _ _ _ (heap_alloc_new w _)
  have hb0 : Below w.heap.size w (w.alloc (.cells #[.bool false, .slice none 0 0] 56)) := (Below.refl _ _).alloc (Nat.le_refl _) _
  have hs0 : w.heap.size < (w.alloc (.cells #[.bool false, .slice none 0 0] 56)).heap.size := by simp
  have C := hide (And.intro c0 (And.intro c1 (And.intro f0 (And.intro f1 (And.intro hb0 hs0)))))
  clear h3 c0 c1 f0 f1 hb0 hs0
  go_enter Try.func43, Try.ntmps43
  go_wp2
  generalize w.alloc (.cells #[.bool false, .slice none 0 0] 56) = w0 at C ⊢
  go_loopw [3, 4] (fun dv iv wr => ∃ (k : Nat) (ao' : Option Addr) (cap' : Nat) (D : List Int), k ≤ xs.length ∧ iv = .int .i64 ((k : Int) - 1) ∧ dv = .slice ao' D.length cap' ∧ Got wr ao' cap' D (Lm.val (xs.drop k)) ∧ Below w0.heap.size w0 wr) (fun _ i _ => (intOf i + 1).toNat)
  case atStart => exact ⟨xs.length, none, 0, [], Nat.le_refl _, rfl, rfl, ⟨⟨none, 0, rfl, Nat.le_refl _, by simp [maxLen], limb_nil, .inl rfl⟩, canon_nil, by simp [val, Lm.val]⟩, Below.refl _ _⟩
  case round =>
    obtain ⟨k, ao', cap', D, hk, rfl, rfl, hg, hbel⟩ := hrel
    have hdl := len_three hg.canon (Lm.limb_drop H3.out k) (by rw [hg.val]; omega)
    rw [List.length_drop] at hdl
    cases k with
    | zero =>
      rw [List.drop_zero] at hg
      go_wp2_with fail
      refine (made_g _ _ _ _ _ hg).mono ?_
      rintro e w1 ⟨rfl, hb1⟩
      replace hg := hg.below hb1
      have hB := hbel.trans (hb1.mono hbel.size)
      have d0 := (hB.cell (p := ⟨w.heap.size, 0, none⟩) C.out.2.2.2.2.2).trans C.out.1
      have d1 := (hB.cell (p := ⟨w.heap.size, 1, none⟩) C.out.2.2.2.2.2).trans C.out.2.1
      have g0 := (hB.frozen (p := ⟨w.heap.size, 0, none⟩) C.out.2.2.2.2.2).trans C.out.2.2.1
      have g1 := (hB.frozen (p := ⟨w.heap.size, 1, none⟩) C.out.2.2.2.2.2).trans C.out.2.2.2.1
      have hBw : Below w.heap.size w w1 := C.out.2.2.2.2.1.trans (hB.mono C.out.2.2.2.2.1.size)
      have e0 : Below w.heap.size w ((w1.setCell ⟨w.heap.size, 0, none⟩ (.bool false)).setCell ⟨w.heap.size, 1, none⟩ (.slice ao' D.length cap')) := (hBw.setCell (Nat.le_refl _) _).setCell (Nat.le_refl _) _
      have e1 : (w1.setCell ⟨w.heap.size, 0, none⟩ (.bool false)).cell? ⟨w.heap.size, 1, none⟩ = some (.slice none 0 0) := by
        rw [World.cell?_setCell_other _ _ _ _ (by simp)]; exact d1
      have e2 := hide ((hg.sl.setCell d0 (fun z => by simp) (.bool false)).setCell e1 (fun z => by simp) (.slice ao' D.length cap'))
      have e3 := hide hg.2
      have y0 := World.cell?_setCell_same _ _ (.bool false) d0
      have x1 := World.cell?_setCell_same _ _ (.slice ao' D.length cap') e1
      have X := hide (And.intro y0 x1)
      clear e1 y0 x1
      go_wp2
      refine bodyPost_ret (v := .agg #[.bool false, .slice ao' D.length cap']) ?_ rfl ⟨ao', cap', D, rfl, ⟨e2.out, e3.out⟩, by omega, e0⟩
      simp [results, Try.results43, go_sem, X.out.1, X.out.2]
    | succ k =>
      have sx := (hx.below C.out.2.2.2.2.1).below hbel
      obtain ⟨b, off, rfl, hcx⟩ := sx.cells (by omega)
      have cx := hcx k (by omega)
      have bx := Lm.limb_getD H3.out k
      have Hd := hide (Lm.drop_getD xs k (by omega))
      generalize xs.getD k 0 = z at cx bx Hd
      clear sx hcx
      go_wp2_with fail
      refine (small_any _ _ _ _ D hg.sl 4294967296 z (by omega) (by omega) (by omega)).mono ?_
      rintro e w1 ⟨v, rfl, hi, hb1⟩
      obtain ⟨ao2, cap2, D2, rfl, hg2⟩ := hi.got
      have HG : Hid (Got w1 ao2 cap2 D2 (Lm.val (xs.drop k))) := by
        show Got _ _ _ _ _
        rw [Hd.out, Lm.val, Int.add_comm, Int.mul_comm, ← hg.val]
        exact hg2
      have HBl := hide (hbel.trans (hb1.mono hbel.size))
      clear hg hg2 hi hb1
      go_wp2
      go_roundw
      case rel => exact ⟨k, ao2, cap2, D2, by omega, rfl, rfl, HG.out, HBl.out⟩
      case measure => simp [intOf]

end Dm
end Go.Proofs.Ythbomfboohjcfaa
