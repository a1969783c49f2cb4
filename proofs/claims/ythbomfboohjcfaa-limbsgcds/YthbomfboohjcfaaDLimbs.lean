/-
  The contract of the reference's Limbs.
-/
import Derived.Test.YthbomfboohjcfaaDFrom
namespace Go.Proofs.Ythbomfboohjcfaa
namespace Dm
open Go.RowKit
open Lm (hide lt_of_cell lt_of_heap div_of info32)

def lenOf : Value → Nat | .slice _ n _ => n | _ => 0

theorem cut_shorter {D E : List Int} (hD : Canon D) (hE : Canon E) (h : val E = val D / 4294967296) (h0 : 0 < D.length) : E.length < D.length := by
  have hb := val_bounds hD.1
  have : E.length ≤ D.length - 1 := by
    apply canon_len hE
    obtain ⟨k, hk⟩ : ∃ k, D.length = k + 1 := ⟨D.length - 1, by omega⟩
    rw [hk] at hb ⊢
    simp only [pw, Nat.add_sub_cancel] at hb ⊢
    rw [h]
    have := pw_pos k
    omega
  omega

theorem Ow.open {B : Nat} {w : World} {v : Value} {rs : List Int} (h : Ow B w v rs) : ∃ ao cap, v = .slice ao rs.length cap ∧ Sl w (.slice ao rs.length cap) rs ∧ rs.length ≤ cap ∧ cap ≤ 9223372036854775807 := by
  obtain ⟨ao, cap, rfl, h1, h2, h3, h4⟩ := h.sl
  exact ⟨ao, cap, rfl, ⟨ao, cap, rfl, h1, h2, h3, h4⟩, h1, h2⟩

/-- What is owned below the heap's end stays owned behind a call that writes nothing old. -/
theorem owns_below {B e n : Nat} {w w' : World} {v : Value} {xs : List Value} (h : w.ownsRow B e 1 v n xs) (hb : Below w.heap.size w w') : w'.ownsRow B e 1 v n xs := by
  obtain ⟨h1, h2⟩ := h
  refine ⟨h1, ?_⟩
  rcases h2 with h2 | ⟨g, cap, cur, hv, hg, hh, r⟩
  · exact .inl h2
  · exact .inr ⟨g, cap, cur, hv, hg, by rw [hb.block g (lt_of_heap hh)]; exact hh, r⟩

theorem Ow.grown {B : Nat} {w w' : World} {v : Value} {zs : List Int} {row : Option Nat} (h : Ow B w v zs) (hg : w.grownBy w' row) (hr : ∀ j, row = some j → j < B) : Ow B w' v zs := by
  obtain ⟨ao, cap, rfl, h1, h2, h3, h4⟩ := h
  refine ⟨ao, cap, rfl, h1, h2, h3, ?_⟩
  rcases h4 with h4 | ⟨g, off, cur, rfl, hB, hh, hs, ha⟩
  · exact .inl h4
  · refine .inr ⟨g, off, cur, rfl, hB, ?_, hs, ha⟩
    rw [hg.block g (lt_of_heap hh) (fun e => by have := hr g e.symm; omega)]
    exact hh

/-- A limb more behind. -/
theorem limbs_val {ls : List Int} {x y : Int} (h : Lm.val ls + Lm.pw ls.length * y = x) : Lm.val (ls ++ [y % 4294967296]) + Lm.pw (ls ++ [y % 4294967296]).length * (y / 4294967296) = x := by
  rw [Lm.val_snoc, List.length_append, List.length_singleton, Lm.pw, ← h]
  have e : y = y % 4294967296 + 4294967296 * (y / 4294967296) := by omega
  have e2 : Lm.pw ls.length * (y % 4294967296) + 4294967296 * Lm.pw ls.length * (y / 4294967296) = Lm.pw ls.length * y := by
    rw [Int.mul_comm 4294967296, Int.mul_assoc, ← Int.mul_add, ← e]
  omega

theorem limbs_top {ls : List Int} {y : Int} (h0 : 0 < y) (h1 : y / 4294967296 = 0) : Lm.tl (ls ++ [y % 4294967296]) = (ls ++ [y % 4294967296]).length := by
  have h2 : y % 4294967296 ≠ 0 := by omega
  have := Lm.tl_gt (zs := ls ++ [y % 4294967296]) (n := ls.length) (by simpa using h2)
  have := Lm.tl_le (ls ++ [y % 4294967296])
  simp at this ⊢
  simp at *
  omega

theorem limbs_room {ls : List Int} {x y : Int} {M : Nat} (hl : Lm.Limb ls) (h : Lm.val ls + Lm.pw ls.length * y = x) (hy : 0 < y) (hx : x < Lm.pw M) : ls.length < M := by
  apply Classical.byContradiction
  intro hn
  have h1 := Lm.pw_mono (m := M) (n := ls.length) (by omega)
  have h2 := (Lm.val_bounds hl).1
  have h3 := Lm.pw_pos ls.length
  have h4 : Lm.pw ls.length * 1 ≤ Lm.pw ls.length * y := Int.mul_le_mul_of_nonneg_left (by omega) (by omega)
  omega

theorem step_own32 {B : Nat} {w wr w1 : World} {v v' : Value} {k : Nat} {ds : List Int} {z : Int} {o : Obj} (h : w1.ownsRow B 47 1 v' (k + 1) (ds.map (Value.int .u32) ++ [.int .u32 z])) (hg : (wr.alloc o).grownBy w1 v.ownBlock) (hb : Below B w wr) (hB : B ≤ wr.heap.size) (hl : ∀ j, v.ownBlock = some j → B ≤ j ∧ j < wr.heap.size) :
    w1.ownsRow B 47 1 v' (k + 1) ((ds ++ [z]).map (Value.int .u32)) ∧ Below B w w1 := by
  refine ⟨by simpa using h, ((hb.alloc hB o).grown hg ?_ (fun j hj => (hl j hj).1))⟩
  simp
  omega

set_option maxRecDepth 20000 in
set_option maxHeartbeats 1000000 in
theorem limbs_loop (w : World) (ng : Bool) (ao : Option Addr) (cap : Nat) (D : List Int) (x : Int) (hD : Got w ao cap D x) (M : Nat) (hx : x < Lm.pw M) (hM : M ≤ 1000000) (hl : D.length ≤ 1000000) (h0 : 0 < D.length) :
    Calls Try.prog 42 #[.agg #[.bool ng, .slice ao D.length cap]] w fun e w' => ∃ v, e = .returned v ∧ Lm.Is w.heap.size w' v x ∧ Below w.heap.size w w' := by
  obtain ⟨_, h1, h2, h3⟩ := hD.sl.parts
  obtain ⟨i0, hi, hz0, hz1, hz2⟩ := info_parts info64
  obtain ⟨j0, hj, jz0, jz1, jz2⟩ := info_parts info32
  obtain ⟨b, off, rfl, hc⟩ := hD.sl.cells h0
  have hcells : ∀ j u, (D.map (Value.int .i64))[j]? = some u → (w.alloc (Obj.cells #[.bool ng, .slice (some ⟨b, off, none⟩) D.length cap] 56)).cell? ((⟨b, off, none⟩ : Addr).add j) = some u := by
    intro j u hu
    rw [List.getElem?_map] at hu
    have hj : j < D.length := by
      apply Classical.byContradiction
      intro hn
      rw [List.getElem?_eq_none (by omega)] at hu
      cases hu
    rw [List.getElem?_eq_getElem hj] at hu
    have hcj := hc j hj
    rw [List.getD_eq_getElem?_getD, List.getElem?_eq_getElem hj] at hcj
    rw [show ((⟨b, off, none⟩ : Addr).add j) = ⟨b, off + j, none⟩ from by simp [Addr.add], World.cell?_alloc_past _ _ _ (lt_of_cell hcj), hcj]
    exact hu
  have hone : ∀ u ∈ D.map (Value.int .i64), u.oneCell' = true := by
    intro u hu
    obtain ⟨z, _, rfl⟩ := List.mem_map.1 hu
    rfl
  have H3 := hide h3
  have HC := hide hD.2
  have HX := hide hx
  clear hc h3 hD hx
  go_enter Try.func42, Try.ntmps42
  go_wp2_with (at_builtin; refine wpList_append_own _ rfl (.const (.slice none 0 0)) (.tmp 7) 54 rfl (w.heap.size + 1) 3 i0 (.int .i64 0) 1 8 Try.underlying54 hi hz0 hz1 hz2 rfl (by decide) _ _ _ rfl (World.ownsRow_nil _ _ _ _) ⟨b, off, none⟩ D.length cap (D.map (Value.int .i64)) rfl (by simp) hcells hone (by unfold maxLen; omega) (by omega) (by simp) ?_)
  intro v' w1 hown hgrow _
  have hb1 : Below w.heap.size w w1 := ((Below.refl w.heap.size w).alloc (Nat.le_refl _) _).grown hgrow (by simp) (by intro k hk; simp [Value.ownBlock] at hk)
  obtain ⟨ao1, cap1, rfl, s1, _, _⟩ := (ow_of_row hown H3.out).open
  have hg1 : Got w1 ao1 cap1 D x := ⟨s1, HC.out⟩
  clear hown hgrow s1 hcells hone
  go_wp2
  go_loopw [3, 4] (fun lv dv wr => ∃ (ls D2 : List Int) (ao2 : Option Addr) (cap2 : Nat) (y : Int), dv = .slice ao2 D2.length cap2 ∧ Got wr ao2 cap2 D2 y ∧ D2.length ≤ D.length ∧ wr.ownsRow w.heap.size 47 1 lv ls.length (ls.map (Value.int .u32)) ∧ Lm.Limb ls ∧ Lm.val ls + Lm.pw ls.length * y = x ∧ (D2 = [] → Lm.tl ls = ls.length) ∧ Below w.heap.size w wr) (fun _ dv _ => lenOf dv)
  case atStart => exact ⟨[], D, ao1, cap1, x, rfl, hg1, Nat.le_refl _, World.ownsRow_nil _ _ _ _, Lm.limb_nil, by simp [Lm.val, Lm.pw], fun e => by rw [e] at h0; simp at h0, hb1⟩
  case round =>
    obtain ⟨ls, D2, ao2, cap2, y, rfl, hg, hdl, hown, hls, hv, htop, hbel⟩ := hrel
    have HLS := hide hls
    have HV := hide hv
    have HT := hide htop
    clear hls hv htop
    by_cases hz : 0 < D2.length
    · have hy : 0 < y := by
        have h5 := val_pos_tl hg.canon.1 (by rw [hg.canon.2]; exact hz)
        rw [hg.val] at h5
        exact h5
      have hroom := limbs_room HLS.out HV.out hy HX.out
      go_wp2_with fail
      refine (cutBy_any _ _ _ _ D2 hg.sl 4294967296 (by omega) (by omega) (by omega)).mono ?_
      rintro e w2 ⟨v2, rfl, i2, hb2⟩
      obtain ⟨D3, ho3, hc3, hv3⟩ := i2
      have hsh := cut_shorter hg.canon hc3 hv3 hz
      rw [hg.val] at hv3 ⊢
      obtain ⟨ao3, cap3, rfl, _, _, _⟩ := ho3.open
      have HO3 := hide ho3
      have HC3 := hide (And.intro hc3 hv3)
      have hls3 : Hid (∀ j, u3.ownBlock = some j → w.heap.size ≤ j ∧ j < wr.heap.size) := hown.lt
      have hbel2 := hbel.trans (hb2.mono hbel.size)
      have hown2 := owns_below hown hb2
      have HV' := hide (limbs_val HV.out)
      have HT' : Hid (D3 = [] → Lm.tl (ls ++ [y % 4294967296]) = (ls ++ [y % 4294967296]).length) := by
        intro e3
        refine limbs_top hy ?_
        rw [e3] at hv3
        exact hv3.symm
      clear ho3 hc3 hv3 hown hbel hb2 hg
      go_wp2_with (at_builtin; refine wpList_append_own _ rfl (.tmp 17) (.tmp 20) 22 rfl w.heap.size 47 j0 (.int .u32 0) 1 4 Try.underlying22 hj jz0 jz1 jz2 rfl (by decide) _ _ _ rfl (hown2.alloc _) ⟨w2.heap.size, 0, none⟩ 1 1 [.int .u32 (y % 4294967296)] rfl rfl (cell_one_new _ _ _) ?c2 ?c3 ?c4 ?c5 ?_)
      case c2 => first | rfl | (intro u hu; simp at hu; subst hu; rfl)
      case c3 => unfold maxLen; omega
      case c4 => omega
      case c5 => have := hbel2.size; first | omega | (simp; omega)
      intro v4 w4 hown4 hgrow4 _
      have R := step_own32 hown4 hgrow4 hbel2 hbel2.size (hown2.lt)
      have HG4 : Hid (Got w4 ao3 cap3 D3 (y / 4294967296)) := ⟨((HO3.out.below ((Below.refl w2.heap.size w2).alloc (Nat.le_refl _) _)).grown hgrow4 (fun j hj => (hls3.out j hj).2)).sl, HC3.out⟩
      clear hown4 hgrow4 hown2
      go_wp2
      go_roundw
      case rel => exact ⟨ls ++ [y % 4294967296], D3, ao3, cap3, y / 4294967296, rfl, HG4.out, by omega, by simpa using R.1, Lm.limb_append.2 ⟨HLS.out, Lm.limb_cons.2 ⟨by omega, Lm.limb_nil⟩⟩, HV'.out, HT'.out, R.2⟩
      case measure => simp [lenOf]; omega
    · have hz0 : D2 = [] := List.eq_nil_of_length_eq_zero (by omega)
      have hy0 : y = 0 := by rw [← hg.val, hz0]; rfl
      have hvx : Lm.val ls = x := by have := HV.out; rw [hy0, Int.mul_zero, Int.add_zero] at this; exact this
      have his : Lm.Is w.heap.size wr u3 x := ⟨ls, Lm.ow_of_row hown HLS.out, ⟨HLS.out, HT.out hz0⟩, hvx⟩
      clear hz0 hy0 hvx hown hg
      go_wp2
      go_ret
      exact ⟨_, rfl, his, hbel⟩

end Dm
end Go.Proofs.Ythbomfboohjcfaa
