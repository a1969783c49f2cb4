/-
  Whole numbers: the contract of the statements' own Small.
-/
import Derived.Test.YtjhhjefobbhdlaaWD
namespace Go.Proofs.Ytjhhjefobbhdlaa
namespace Lm
open Go.RowKit

theorem owns_below' {B e n : Nat} {w w' : World} {v : Value} {xs : List Value} (h : w.ownsRow B e 1 v n xs) (hb : Below w.heap.size w w') : w'.ownsRow B e 1 v n xs := by
  obtain ⟨h1, h2⟩ := h
  refine ⟨h1, ?_⟩
  rcases h2 with h2 | ⟨g, cap, cur, hv, hg, hh, r⟩
  · exact .inl h2
  · exact .inr ⟨g, cap, cur, hv, hg, by rw [hb.block g (lt_of_heap hh)]; exact hh, r⟩

theorem own_step {B : Nat} {w wr w1 : World} {v v' : Value} {k : Nat} {ds : List Int} {z : Int} {o : Obj} (h : w1.ownsRow B 51 1 v' (k + 1) (ds.map (Value.int .u32) ++ [.int .u32 z])) (hg : (wr.alloc o).grownBy w1 v.ownBlock) (hb : Below B w wr) (hB : B ≤ wr.heap.size) (hl : ∀ j, v.ownBlock = some j → B ≤ j ∧ j < wr.heap.size) :
    w1.ownsRow B 51 1 v' (k + 1) ((ds ++ [z]).map (Value.int .u32)) ∧ Below B w w1 := by
  refine ⟨by simpa using h, ((hb.alloc hB o).grown hg ?_ (fun j hj => (hl j hj).1))⟩
  simp
  omega

theorem u_step {ls : List Int} {u x : Int} (h : val ls + pw ls.length * u = x) : val (ls ++ [u % 4294967296]) + pw (ls ++ [u % 4294967296]).length * (u / 4294967296) = x := by
  rw [val_snoc, List.length_append, List.length_singleton, pw, ← h, Int.mul_comm 4294967296 (pw ls.length), Int.mul_assoc, Int.add_assoc, ← Int.mul_add]
  congr 2
  omega

theorem u_top {ls : List Int} {u : Int} (hu : 0 < u) (h0 : u / 4294967296 = 0) : tl (ls ++ [u % 4294967296]) = (ls ++ [u % 4294967296]).length := by
  have h1 : (ls ++ [u % 4294967296]).getD ls.length 0 = u % 4294967296 := by
    rw [List.getD_eq_getElem?_getD, List.getElem?_append_right (Nat.le_refl _)]
    simp
  have h2 := tl_gt (zs := ls ++ [u % 4294967296]) (n := ls.length) (by rw [h1]; omega)
  have h3 := tl_le (ls ++ [u % 4294967296])
  rw [List.length_append, List.length_singleton] at h3 ⊢
  omega

theorem u_room {ls : List Int} {u : Int} (hl : Limb ls) (hu : 0 < u) (h : val ls + pw ls.length * u < 18446744073709551616) : ls.length ≤ 1 := by
  apply Classical.byContradiction
  intro hn
  have h1 := (val_bounds hl).1
  have h2 := pw_mono (m := 2) (n := ls.length) (by omega)
  rw [show pw 2 = 18446744073709551616 from by decide] at h2
  have h3 : pw ls.length * 1 ≤ pw ls.length * u := Int.mul_le_mul_of_nonneg_left (by omega) (by omega)
  omega

set_option maxRecDepth 20000 in
set_option maxHeartbeats 1000000 in
theorem lsmall_neg (w : World) (v : Int) (h1 : -9223372036854775808 ≤ v) (h2 : v ≤ 9223372036854775807) (h0 : v < 0) :
    Calls Try.prog 21 #[.int .i64 v] w fun e w' => ∃ ng' ao cap rs, e = .returned (.agg #[.bool ng', .slice ao rs.length cap]) ∧ Wh w' ng' ao cap rs v ∧ rs.length ≤ 2 ∧ Below w.heap.size w w' := by
  obtain ⟨i0, hi, hz0, hz1, hz2⟩ := info_parts info32
  obtain ⟨w0, e0, br, hb0, hs0⟩ := boxed0 w false (.slice none 0 0)
  have E0 := hide e0
  have HS := hide hs0
  clear e0 hs0
  have hw : IntKind.u64.wrap (-IntKind.u64.wrap v) = -v := by rw [IntKind.wrap_u64, IntKind.wrap_u64]; omega
  go_enter Try.func21, Try.ntmps21
  go_wp2
  rw [E0.out]
  clear hw
  go_loopw [3, 4] (fun uv mv wr => ∃ (u : Int) (ls : List Int), uv = .int .u64 u ∧ 0 ≤ u ∧ u < 18446744073709551616 ∧ Limb ls ∧ val ls + pw ls.length * u = -v ∧ (u = 0 → tl ls = ls.length) ∧ wr.ownsRow w0.heap.size 51 1 mv ls.length (ls.map (Value.int .u32)) ∧ Below w0.heap.size w0 wr) (fun uv _ _ => (intOf uv).toNat)
  case atStart => exact ⟨-v, [], rfl, by omega, by omega, limb_nil, by simp [val, pw], fun _ => rfl, World.ownsRow_nil _ _ _ _, Below.refl _ _⟩
  case round =>
    obtain ⟨u, ls, rfl, hu0, hu1, hls, hv, htop, hown, hbel⟩ := hrel
    have HL := hide hls
    have HV := hide hv
    have HT := hide htop
    have hb' := hbel
    clear hls hv htop
    by_cases hu : 0 < u
    · have hroom := u_room HL.out hu (by rw [HV.out]; omega)
      have HV' := hide (u_step HV.out)
      have HT' : Hid (u / 4294967296 = 0 → tl (ls ++ [u % 4294967296]) = (ls ++ [u % 4294967296]).length) := fun h => u_top hu h
      go_wp2_with (at_builtin; refine wpList_append_own _ rfl (.tmp 13) (.tmp 16) 22 rfl w0.heap.size 51 i0 (.int .u32 0) 1 4 Try.underlying22 hi hz0 hz1 hz2 rfl (by decide) _ _ _ rfl (hown.alloc _) ⟨wr.heap.size, 0, none⟩ 1 1 [.int .u32 (u % 4294967296)] rfl rfl (cell_one_new _ _ _) ?c2 ?c3 ?c4 ?c5 ?_)
      case c2 => first | rfl | (intro x hx; simp at hx; subst hx; rfl)
      case c3 => unfold maxLen; omega
      case c4 => omega
      case c5 => have := hbel.size; first | omega | (simp; omega)
      intro v4 w4 hown4 hgrow4 _
      have R := own_step hown4 hgrow4 hbel hbel.size hown.lt
      clear hown4 hgrow4 hown
      go_wp2
      go_roundw
      case rel => exact ⟨u / 4294967296, ls ++ [u % 4294967296], rfl, by omega, by omega, limb_append.2 ⟨HL.out, limb_cons.2 ⟨by omega, limb_nil⟩⟩, HV'.out, HT'.out, by simpa using R.1, R.2⟩
      case measure => simp [intOf]; omega
    · have hu' : u = 0 := by omega
      subst hu'
      have hval : val ls = -v := by have := HV.out; rwa [Int.mul_zero, Int.add_zero] at this
      obtain ⟨p1, q1, r1, hv1, G1, l1⟩ := got_small (B := w0.heap.size) (x := -v) ⟨ls, ow_of_row hown HL.out, ⟨HL.out, HT.out rfl⟩, hval⟩ (by omega)
      subst hv1
      have G2' := Wh.of true G1
      have hsg : sg true (-v) = v := by simp [sg]
      rw [hsg] at G2'
      have hng : (true && decide (0 < r1.length)) = true := by rw [G2'.2]; simp; omega
      have G2 : Hid (Wh wr true p1 q1 r1 v) := by rw [hng] at G2'; exact G2'
      have br2 := br.below hbel
      obtain ⟨ka, kb, kc, kd⟩ := br2.facts
      have X := hide (br2.set true (.slice p1 r1.length q1)).facts
      have Y := hide (br2.wh true (.slice p1 r1.length q1) G2.out)
      have Z := hide (below_set2 (hb0.trans (hbel.mono hb0.size)) (Nat.le_refl _) (.bool true) (.slice p1 r1.length q1))
      clear hval hown G1 hsg hng G2'
      have hd : decide (v < 0) = true := by simp; omega
      go_wp2
      refine bodyPost_ret (v := .agg #[.bool true, .slice p1 r1.length q1]) ?_ rfl ?_
      · simp [results, Try.results21, go_sem, X.out.1, X.out.2.1]
      · first
          | exact ⟨_, p1, q1, r1, rfl, Y.out, l1, Z.out⟩
          | exact Or.inr ⟨p1, q1, r1, rfl, Y.out, l1, Z.out⟩
          | exact Or.inl ⟨p1, q1, r1, rfl, Y.out, l1, Z.out⟩

set_option maxRecDepth 20000 in
set_option maxHeartbeats 1000000 in
theorem lsmall_pos (w : World) (v : Int) (h1 : -9223372036854775808 ≤ v) (h2 : v ≤ 9223372036854775807) (h0 : ¬ v < 0) :
    Calls Try.prog 21 #[.int .i64 v] w fun e w' => ∃ ng' ao cap rs, e = .returned (.agg #[.bool ng', .slice ao rs.length cap]) ∧ Wh w' ng' ao cap rs v ∧ rs.length ≤ 2 ∧ Below w.heap.size w w' := by
  obtain ⟨i0, hi, hz0, hz1, hz2⟩ := info_parts info32
  obtain ⟨w0, e0, br, hb0, hs0⟩ := boxed0 w false (.slice none 0 0)
  have E0 := hide e0
  have HS := hide hs0
  clear e0 hs0
  have hw : True := trivial
  go_enter Try.func21, Try.ntmps21
  go_wp2
  rw [E0.out]
  clear hw
  go_loopw [3, 4] (fun uv mv wr => ∃ (u : Int) (ls : List Int), uv = .int .u64 u ∧ 0 ≤ u ∧ u < 18446744073709551616 ∧ Limb ls ∧ val ls + pw ls.length * u = v ∧ (u = 0 → tl ls = ls.length) ∧ wr.ownsRow w0.heap.size 51 1 mv ls.length (ls.map (Value.int .u32)) ∧ Below w0.heap.size w0 wr) (fun uv _ _ => (intOf uv).toNat)
  case atStart => exact ⟨v, [], rfl, by omega, by omega, limb_nil, by simp [val, pw], fun _ => rfl, World.ownsRow_nil _ _ _ _, Below.refl _ _⟩
  case round =>
    obtain ⟨u, ls, rfl, hu0, hu1, hls, hv, htop, hown, hbel⟩ := hrel
    have HL := hide hls
    have HV := hide hv
    have HT := hide htop
    have hb' := hbel
    clear hls hv htop
    by_cases hu : 0 < u
    · have hroom := u_room HL.out hu (by rw [HV.out]; omega)
      have HV' := hide (u_step HV.out)
      have HT' : Hid (u / 4294967296 = 0 → tl (ls ++ [u % 4294967296]) = (ls ++ [u % 4294967296]).length) := fun h => u_top hu h
      go_wp2_with (at_builtin; refine wpList_append_own _ rfl (.tmp 13) (.tmp 16) 22 rfl w0.heap.size 51 i0 (.int .u32 0) 1 4 Try.underlying22 hi hz0 hz1 hz2 rfl (by decide) _ _ _ rfl (hown.alloc _) ⟨wr.heap.size, 0, none⟩ 1 1 [.int .u32 (u % 4294967296)] rfl rfl (cell_one_new _ _ _) ?c2 ?c3 ?c4 ?c5 ?_)
      case c2 => first | rfl | (intro x hx; simp at hx; subst hx; rfl)
      case c3 => unfold maxLen; omega
      case c4 => omega
      case c5 => have := hbel.size; first | omega | (simp; omega)
      intro v4 w4 hown4 hgrow4 _
      have R := own_step hown4 hgrow4 hbel hbel.size hown.lt
      clear hown4 hgrow4 hown
      go_wp2
      go_roundw
      case rel => exact ⟨u / 4294967296, ls ++ [u % 4294967296], rfl, by omega, by omega, limb_append.2 ⟨HL.out, limb_cons.2 ⟨by omega, limb_nil⟩⟩, HV'.out, HT'.out, by simpa using R.1, R.2⟩
      case measure => simp [intOf]; omega
    · have hu' : u = 0 := by omega
      subst hu'
      have hval : val ls = v := by have := HV.out; rwa [Int.mul_zero, Int.add_zero] at this
      obtain ⟨p1, q1, r1, hv1, G1, l1⟩ := got_small (B := w0.heap.size) (x := v) ⟨ls, ow_of_row hown HL.out, ⟨HL.out, HT.out rfl⟩, hval⟩ (by omega)
      subst hv1
      have G2' := Wh.of false G1
      have hsg : sg false (v) = v := by simp [sg]
      rw [hsg] at G2'
      have hng : (false && decide (0 < r1.length)) = false := by rw [G2'.2]; simp; omega
      have G2 : Hid (Wh wr false p1 q1 r1 v) := by rw [hng] at G2'; exact G2'
      have br2 := br.below hbel
      obtain ⟨ka, kb, kc, kd⟩ := br2.facts
      have X := hide (br2.set false (.slice p1 r1.length q1)).facts
      have Y := hide (br2.wh false (.slice p1 r1.length q1) G2.out)
      have Z := hide (below_set2 (hb0.trans (hbel.mono hb0.size)) (Nat.le_refl _) (.bool false) (.slice p1 r1.length q1))
      clear hval hown G1 hsg hng G2'
      have hd : decide (v < 0) = false := by simp; omega
      go_wp2
      refine bodyPost_ret (v := .agg #[.bool false, .slice p1 r1.length q1]) ?_ rfl ?_
      · simp [results, Try.results21, go_sem, X.out.1, X.out.2.1]
      · first
          | exact ⟨_, p1, q1, r1, rfl, Y.out, l1, Z.out⟩
          | exact Or.inr ⟨p1, q1, r1, rfl, Y.out, l1, Z.out⟩
          | exact Or.inl ⟨p1, q1, r1, rfl, Y.out, l1, Z.out⟩

theorem lsmall_g (w : World) (v : Int) (h1 : -9223372036854775808 ≤ v) (h2 : v ≤ 9223372036854775807) :
    Calls Try.prog 21 #[.int .i64 v] w fun e w' => ∃ ng' ao cap rs, e = .returned (.agg #[.bool ng', .slice ao rs.length cap]) ∧ Wh w' ng' ao cap rs v ∧ rs.length ≤ 2 ∧ Below w.heap.size w w' := by
  by_cases h0 : v < 0
  · exact lsmall_neg w v h1 h2 h0
  · exact lsmall_pos w v h1 h2 h0

end Lm
end Go.Proofs.Ytjhhjefobbhdlaa
