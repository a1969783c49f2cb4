/-
  The contracts of Compare and of Cmp. The contract of divideShort. The contracts of Small and of Uint.
-/
import Derived.Test.YthbomfboohjcfaaMrg2
import Derived.Laws.BitsAllLaws
namespace Go.Proofs.Ythbomfboohjcfaa
namespace Lm
open Go.RowKit

/-- -1, 0 or 1, as x is below y, the same, above. -/
def cmpI (x y : Int) : Int := if x < y then -1 else if y < x then 1 else 0

theorem cmpI_lt {x y : Int} (h : x < y) : cmpI x y = -1 := by simp [cmpI, h]
theorem cmpI_gt {x y : Int} (h : y < x) : cmpI x y = 1 := by unfold cmpI; rw [if_neg (by omega), if_pos h]
theorem cmpI_eq {x y : Int} (h : x = y) : cmpI x y = 0 := by simp [cmpI, h]

theorem ret_i64 {a b : Int} (h : a = b) : Ending.returned (.int .i64 a) = .returned (.int .i64 b) := by rw [h]

set_option maxRecDepth 20000 in
set_option maxHeartbeats 400000 in
theorem compare_int (x y : Int) (w : World) : Calls Try.prog 39 #[.int .i64 x, .int .i64 y] w fun e w' => e = .returned (.int .i64 (cmpI x y)) ∧ w' = w := by
  rcases Int.lt_trichotomy x y with h | h | h
  · have H : Hid (cmpI x y = -1) := cmpI_lt h
    go_enter Try.func39, Try.ntmps39
    go_wp2
    go_ret
    exact ⟨by rw [H.out]; rfl, rfl⟩
  · subst h
    have H : Hid (cmpI x x = 0) := cmpI_eq rfl
    go_enter Try.func39, Try.ntmps39
    go_wp2
    go_ret
    exact ⟨by rw [H.out]; rfl, rfl⟩
  · have H : Hid (cmpI x y = 1) := cmpI_gt h
    have h' : ¬ x < y := by omega
    go_enter Try.func39, Try.ntmps39
    go_wp2
    go_ret
    exact ⟨by rw [H.out]; rfl, rfl⟩

set_option maxRecDepth 20000 in
set_option maxHeartbeats 400000 in
theorem compare_u32 (x y : Int) (w : World) : Calls Try.prog 40 #[.int .u32 x, .int .u32 y] w fun e w' => e = .returned (.int .i64 (cmpI x y)) ∧ w' = w := by
  rcases Int.lt_trichotomy x y with h | h | h
  · have H : Hid (cmpI x y = -1) := cmpI_lt h
    go_enter Try.func40, Try.ntmps40
    go_wp2
    go_ret
    exact ⟨by rw [H.out]; rfl, rfl⟩
  · subst h
    have H : Hid (cmpI x x = 0) := cmpI_eq rfl
    go_enter Try.func40, Try.ntmps40
    go_wp2
    go_ret
    exact ⟨by rw [H.out]; rfl, rfl⟩
  · have H : Hid (cmpI x y = 1) := cmpI_gt h
    have h' : ¬ x < y := by omega
    go_enter Try.func40, Try.ntmps40
    go_wp2
    go_ret
    exact ⟨by rw [H.out]; rfl, rfl⟩

theorem getD_take (zs : List Int) (i k : Nat) (h : i < k) : (zs.take k).getD i 0 = zs.getD i 0 := by
  rw [List.getD_eq_getElem?_getD, List.getD_eq_getElem?_getD, List.getElem?_take, if_pos h]

theorem trim_lt_at {xs ys : List Int} {k : Nat} (hx : Limb xs) (hy : Limb ys) (hl : tl xs = tl ys) (hk : k < tl xs) (hd : (xs.take (tl xs)).drop (k + 1) = (ys.take (tl ys)).drop (k + 1)) (h : xs.getD k 0 < ys.getD k 0) : val xs < val ys := by
  rw [← val_take_tl xs, ← val_take_tl ys]
  have h1 := tl_le xs
  have h2 := tl_le ys
  exact val_lt_at (limb_take hx _) (limb_take hy _) (by simp; omega) (by simp; omega) hd (by rw [getD_take _ _ _ hk, getD_take _ _ _ (by omega)]; exact h)

theorem trim_lt_len {xs ys : List Int} (hx : Limb xs) (hy : Limb ys) (h : tl xs < tl ys) : val xs < val ys := by
  rw [← val_take_tl xs, ← val_take_tl ys]
  have h1 := tl_le xs
  have h2 := tl_le ys
  exact canon_lt (canon_trim hx) (canon_trim hy) (by simp; omega)

theorem cmp_len {xs ys : List Int} (hx : Limb xs) (hy : Limb ys) (h : tl xs ≠ tl ys) : cmpI (tl xs : Nat) (tl ys : Nat) = cmpI (val xs) (val ys) := by
  by_cases h' : tl xs < tl ys
  · rw [cmpI_lt (by omega), cmpI_lt (trim_lt_len hx hy h')]
  · rw [cmpI_gt (by omega), cmpI_gt (trim_lt_len hy hx (by omega))]

theorem cmp_at {xs ys : List Int} {k : Nat} (hx : Limb xs) (hy : Limb ys) (hl : tl xs = tl ys) (hk : k < tl xs) (hd : (xs.take (tl xs)).drop (k + 1) = (ys.take (tl ys)).drop (k + 1)) (h : xs.getD k 0 ≠ ys.getD k 0) : cmpI (xs.getD k 0) (ys.getD k 0) = cmpI (val xs) (val ys) := by
  by_cases h' : xs.getD k 0 < ys.getD k 0
  · rw [cmpI_lt h', cmpI_lt (trim_lt_at hx hy hl hk hd h')]
  · rw [cmpI_gt (by omega), cmpI_gt (trim_lt_at hy hx hl.symm (by omega) hd.symm (by omega))]

theorem cmp_same {xs ys : List Int} (hd : (xs.take (tl xs)).drop 0 = (ys.take (tl ys)).drop 0) : cmpI (val xs) (val ys) = 0 := by
  simp only [List.drop_zero] at hd
  rw [← val_take_tl xs, ← val_take_tl ys, hd]
  exact cmpI_eq rfl

theorem drop_down {xs ys : List Int} {k : Nat} (hl : tl xs = tl ys) (hk : k < tl xs) (hd : (xs.take (tl xs)).drop (k + 1) = (ys.take (tl ys)).drop (k + 1)) (h : xs.getD k 0 = ys.getD k 0) : (xs.take (tl xs)).drop k = (ys.take (tl ys)).drop k := by
  have h1 := tl_le xs
  have h2 := tl_le ys
  rw [drop_getD _ k (by simp; omega), drop_getD (ys.take (tl ys)) k (by simp; omega), hd, getD_take _ _ _ hk, getD_take _ _ _ (by omega), h]

set_option maxRecDepth 20000 in
set_option maxHeartbeats 1000000 in
theorem cmp_any (w : World) (a1 a2 : Option Addr) (n1 n2 c1 c2 : Nat) (xs ys : List Int) (hx : Sl w (.slice a1 n1 c1) xs) (hy : Sl w (.slice a2 n2 c2) ys) :
    Calls Try.prog 12 #[.slice a1 n1 c1, .slice a2 n2 c2] w fun e w' => e = .returned (.int .i64 (cmpI (val xs) (val ys))) ∧ Below w.heap.size w w' := by
  obtain ⟨rfl, h1, h2, h3⟩ := hx.parts
  obtain ⟨rfl, g1, g2, g3⟩ := hy.parts
  have H3 := hide h3
  have G3 := hide g3
  have t1 := tl_le xs
  have t2 := tl_le ys
  clear h3 g3
  by_cases hl : tl xs = tl ys
  · have hne : (((tl xs : Nat) : Int) != ((tl ys : Nat) : Int)) = false := by simp [hl]
    have HL := hide hl
    have l1 : tl xs ≤ tl ys := by omega
    have l2 : tl ys ≤ tl xs := by omega
    clear hl
    go_enter Try.func12, Try.ntmps12
    go_wp2_with fail
    refine (cut_any w a1 _ c1 xs hx).mono ?_
    rintro e w' ⟨rfl, rfl⟩
    go_wp2_with fail
    refine (cut_any _ a2 _ c2 ys hy).mono ?_
    rintro e w' ⟨rfl, rfl⟩
    go_wp2
    go_loopw [5] (fun i wr => ∃ k : Nat, k ≤ tl xs ∧ (xs.take (tl xs)).drop k = (ys.take (tl ys)).drop k ∧ i = .int .i64 ((k : Int) - 1) ∧ Below w'.heap.size w' wr) (fun i _ => (intOf i + 1).toNat)
    case atStart => exact ⟨tl xs, Nat.le_refl _, by rw [List.drop_of_length_le (by simp; omega), List.drop_of_length_le (by simp; omega)], rfl, Below.refl _ _⟩
    case round =>
      obtain ⟨k, hk, hd, rfl, hbel⟩ := hrel
      have HD := hide hd
      clear hd
      cases k with
      | zero =>
        have HE := hide (cmp_same HD.out)
        go_wp2
        go_ret
        exact ⟨by rw [HE.out]; rfl, hbel⟩
      | succ k =>
        obtain ⟨b, off, rfl, hc⟩ := hx.cells (by omega)
        obtain ⟨b', off', rfl, hc'⟩ := hy.cells (by omega)
        have e1 := hc k (by omega)
        have e2 := hc' k (by omega)
        have f1 := (hbel.cell (p := ⟨b, off + k, none⟩) (lt_of_cell e1)).trans e1
        have f2 := (hbel.cell (p := ⟨b', off' + k, none⟩) (lt_of_cell e2)).trans e2
        have d1 : (k : Int) < ((tl xs : Nat) : Int) := by omega
        have d2 : (k : Int) < ((tl ys : Nat) : Int) := by omega
        clear e1 e2 hc hc'
        by_cases he : xs.getD k 0 = ys.getD k 0
        · have HE := hide (drop_down HL.out (by omega) HD.out he)
          rw [he] at f1
          clear he
          generalize ys.getD k 0 = z at f1 f2
          go_wp2
          go_quiet (fail)
          go_wp2
          go_roundw
          case rel => exact ⟨k, by omega, HE.out, by go_num, below_drewN hbel _⟩
          case measure => simp [intOf]
        · have HE := hide (cmp_at H3.out G3.out HL.out (by omega) HD.out he)
          have hne' : (xs.getD k 0 != ys.getD k 0) = true := by rw [bne_iff_ne]; exact he
          clear he
          generalize xs.getD k 0 = z at f1 hne' HE
          generalize ys.getD k 0 = z' at f2 hne' HE
          go_wp2
          go_quiet (fail)
          go_wp2
          replace f1 : (wr.drewN nq).cell? ⟨b, off + k, none⟩ = some (.int .u32 z) := f1
          replace f2 : (wr.drewN nq).cell? ⟨b', off' + k, none⟩ = some (.int .u32 z') := f2
          replace hbel := below_drewN hbel nq
          generalize wr.drewN nq = wr2 at f1 f2 hbel ⊢
          go_quiet ((go_at_call 40; exact Calls.quiet_of_same (compare_u32 _ _ _)))
          go_wp2
          go_ret
          exact ⟨ret_i64 HE.out, below_drewN hbel _⟩
  · have hne : (((tl xs : Nat) : Int) != ((tl ys : Nat) : Int)) = true := by rw [bne_iff_ne]; omega
    have HE := hide (cmp_len H3.out G3.out hl)
    clear hl
    go_enter Try.func12, Try.ntmps12
    go_wp2_with fail
    refine (cut_any w a1 _ c1 xs hx).mono ?_
    rintro e w' ⟨rfl, rfl⟩
    go_wp2_with fail
    refine (cut_any _ a2 _ c2 ys hy).mono ?_
    rintro e w' ⟨rfl, rfl⟩
    go_wp2_with fail
    refine (compare_int _ _ _).mono ?_
    rintro e w' ⟨rfl, rfl⟩
    go_wp2
    go_ret
    exact ⟨ret_i64 HE.out, Below.refl _ _⟩

end Lm
end Go.Proofs.Ythbomfboohjcfaa

namespace Go.Proofs.Ythbomfboohjcfaa
namespace Lm
open Go.RowKit

theorem or_join (r z : Int) (h1 : 0 ≤ r) (h2 : r < 4294967296) (h3 : 0 ≤ z) (h4 : z < 4294967296) : bits .or .u64 (r * 4294967296) z = r * 4294967296 + z := by
  rw [u64_or _ _ (by omega) (by omega) h3 (by omega)]
  obtain ⟨a, rfl⟩ := Int.eq_ofNat_of_zero_le h1
  obtain ⟨b, rfl⟩ := Int.eq_ofNat_of_zero_le h3
  have e1 : ((a : Int) * 4294967296).toNat = 2 ^ 32 * a := by omega
  rw [e1, Int.toNat_natCast, ← Nat.two_pow_add_eq_or_of_lt (i := 32) (by omega)]
  omega

/-- A step of the division by a short number. -/
theorem div_step {p r z d : Int} (hd : 0 < d) (h1 : 0 ≤ r) (h2 : r < d) (h3 : 0 ≤ z) (h4 : z < 4294967296) (hp : p = r * 4294967296 + z) : 0 ≤ p ∧ 0 ≤ p / d ∧ p / d < 4294967296 ∧ 0 ≤ p % d ∧ p % d < d ∧ p = p / d * d + p % d := by
  have h5 : 0 ≤ p := by omega
  have h6 : p < 4294967296 * d := by omega
  refine ⟨h5, Int.ediv_nonneg h5 (by omega), Int.ediv_lt_of_lt_mul hd h6, Int.emod_nonneg _ (by omega), Int.emod_lt_of_pos _ hd, ?_⟩
  have := Int.mul_ediv_add_emod p d
  rw [Int.mul_comm] at this
  omega

theorem div_val {zs qs : List Int} {k : Nat} {d r z p : Int} (hz : zs.drop k = z :: zs.drop (k + 1)) (h : val (zs.drop (k + 1)) = val qs * d + r) (hp : p = r * 4294967296 + z) (hq : p = p / d * d + p % d) : val (zs.drop k) = val (p / d :: qs) * d + p % d := by
  rw [hz, val, val, h]
  generalize p / d = q at hq ⊢
  generalize p % d = t at hq ⊢
  rw [Int.add_mul, Int.mul_assoc, Int.mul_add]
  generalize q * d = a at hq ⊢
  generalize val qs * d = b
  omega

set_option maxRecDepth 20000 in
set_option maxHeartbeats 400000 in
theorem divideShort_any (w : World) (g off n cap : Nat) (cur : Array Value) (zs : List Int) (d : Int) (hd : 0 < d) (hd2 : d < 4294967296)
    (hh : w.heap[g]? = some (.cells cur 47 (0, 0))) (ha : At cur .u32 off zs) (hz : Limb zs) (hn : zs.length = n) (hm : n ≤ 1000000) :
    Calls Try.prog 52 #[.slice (some ⟨g, off, none⟩) n cap, .int .u32 d] w fun e w' => ∃ qs r cur', e = .returned (.int .u32 r) ∧ 0 ≤ r ∧ r < d ∧ val zs = val qs * d + r ∧ Limb qs ∧ qs.length = n ∧ Wr w w' g cur' 47 ∧ cur'.size = cur.size ∧ At cur' .u32 off qs := by
  subst hn
  have HH := hide hh
  have HZ := hide hz
  have HA := hide ha
  clear hh hz ha
  go_enter Try.func52, Try.ntmps52
  go_wp2
  go_loopw [5, 6] (fun rest i wr => ∃ (k : Nat) (r : Int) (qs : List Int) (cur' : Array Value), k ≤ zs.length ∧ rest = .int .u64 r ∧ i = .int .i64 ((k : Int) - 1) ∧ 0 ≤ r ∧ r < d ∧ val (zs.drop k) = val qs * d + r ∧ Limb qs ∧ qs.length + k = zs.length ∧ Wr w wr g cur' 47 ∧ cur'.size = cur.size ∧ At cur' .u32 off (zs.take k ++ qs)) (fun _ i _ => (intOf i + 1).toNat)
  case atStart => exact ⟨zs.length, 0, [], cur, Nat.le_refl _, rfl, rfl, by omega, by omega, by simp [val], limb_nil, by simp, Wr.refl HH.out, rfl, by simpa using HA.out⟩
  case round =>
    obtain ⟨k, r, qs, cur', hk, rfl, rfl, hr0, hr1, hval, hq, hql, hwr, hcs, hat⟩ := hrel
    have HV := hide hval
    have HQ := hide hq
    have HW := hide hwr
    have HT := hide hat
    have HC := hide hcs
    have HL := hide hql
    clear hval hq hwr hat hcs hql
    cases k with
    | zero =>
      go_wp2
      go_ret
      refine ⟨qs, r, cur', ?_, hr0, hr1, by simpa using HV.out, HQ.out, by simpa using HL.out, HW.out, HC.out, by simpa using HT.out⟩
      rfl
    | succ k =>
      have hcell := HT.out.cell HW.out.here k (by have := HL.out; simp; omega)
      have hfree := HW.out.free (off + k)
      have e1 : (zs.take (k + 1) ++ qs).getD k 0 = zs.getD k 0 := by
        rw [List.getD_eq_getElem?_getD, List.getElem?_append_left (by simp; omega), List.getElem?_take, if_pos (by omega), List.getD_eq_getElem?_getD]
      rw [e1] at hcell
      clear e1
      have hz := limb_getD HZ.out k
      have Hz := hide (drop_getD zs k (by omega))
      generalize zs.getD k 0 = z at hcell hz Hz
      obtain ⟨p, hp⟩ : ∃ p, p = r * 4294967296 + z := ⟨_, rfl⟩
      have hor : bits .or .u64 (r * 4294967296) z = p := by rw [hp]; exact or_join r z hr0 (by omega) hz.1 hz.2
      obtain ⟨s1, s2, s3, s4, s5, s6⟩ := div_step hd hr0 hr1 hz.1 hz.2 hp
      have HV' := hide (div_val Hz.out HV.out hp s6)
      have HQ' : Hid (Limb (p / d :: qs)) := limb_cons.2 ⟨⟨s2, s3⟩, HQ.out⟩
      have HT' := hide ((HT.out.set k (p / d)))
      have HW' := hide (HW.out.set (off + k) (.int .u32 (p / d)))
      have t1 : p.tdiv d = p / d := Int.tdiv_eq_ediv_of_nonneg s1
      have t2 : IntKind.u64.wrap (p / d) = p / d := by rw [IntKind.wrap_u64]; exact Int.emod_eq_of_lt s2 (by omega)
      have t3 : p / d % 4294967296 = p / d := Int.emod_eq_of_lt s2 s3
      clear hp s6
      go_wp2
      go_roundw
      case rel => exact ⟨k, p % d, p / d :: qs, _, by omega, rfl, rfl, s4, s5, HV'.out, HQ'.out, by have := HL.out; simp; omega, HW'.out, by simpa using HC.out, by rw [← set_cons zs qs k _ (by omega)]; exact HT'.out⟩
      case measure => simp [intOf]

end Lm
end Go.Proofs.Ythbomfboohjcfaa

namespace Go.Proofs.Ythbomfboohjcfaa
namespace Lm
open Go.RowKit

theorem Ow.is_cut {B : Nat} {w : World} {ao : Option Addr} {n cap : Nat} {zs : List Int} {x : Int} (h : Ow B w (.slice ao n cap) zs) (hv : val zs = x) : Is B w (.slice ao (tl zs) cap) x := by
  have hl := h.sl.parts.2.2.2
  exact ⟨zs.take (tl zs), h.take (tl_le zs), canon_trim hl, by rw [val_take_tl, hv]⟩

theorem Is.mono {B B' : Nat} {w : World} {v : Value} {x : Int} (h : Is B w v x) (hB : B' ≤ B) : Is B' w v x := by
  obtain ⟨rs, h1, h2, h3⟩ := h
  exact ⟨rs, h1.mono hB, h2, h3⟩

theorem Is.below {B : Nat} {w w' : World} {v : Value} {x : Int} (h : Is B w v x) (hb : Below w.heap.size w w') : Is B w' v x := by
  obtain ⟨rs, h1, h2, h3⟩ := h
  exact ⟨rs, h1.below hb, h2, h3⟩

theorem val_two (x y : Int) : val [x, y] = x + 4294967296 * y := by simp [val]

set_option maxRecDepth 20000 in
set_option maxHeartbeats 400000 in
theorem small_any (w : World) (n : Int) (h0 : 0 ≤ n) (h1 : n < 18446744073709551616) :
    Calls Try.prog 53 #[.int .u64 n] w fun e w' => ∃ v, e = .returned v ∧ Is w.heap.size w' v n ∧ Below w.heap.size w w' := by
  have hl : Limb [n % 4294967296, n / 4294967296] := by
    intro z hz
    simp at hz
    rcases hz with rfl | rfl <;> omega
  have how : Ow w.heap.size (w.alloc (.cells #[.int .u32 (n % 4294967296), .int .u32 (n / 4294967296)] 47)) (.slice (some ⟨w.heap.size, 0, none⟩) 2 2) [n % 4294967296, n / 4294967296] := by
    refine ⟨_, 2, rfl, Nat.le_refl _, by simp [maxLen], hl, .inr ⟨w.heap.size, 0, _, rfl, Nat.le_refl _, heap_alloc_new w _, by simp, fun i hi => ?_⟩⟩
    match i, hi with
    | 0, _ => rfl
    | 1, _ => rfl
  have hbel : Below w.heap.size w (w.alloc (.cells #[.int .u32 (n % 4294967296), .int .u32 (n / 4294967296)] 47)) := (Below.refl _ _).alloc (Nat.le_refl _) _
  have his := how.is_cut (x := n) (by rw [val_two]; omega)
  clear hl
  go_enter Try.func53, Try.ntmps53
  go_wp2_with fail
  refine (cut_any _ _ _ _ _ how.sl).mono ?_
  rintro e w' ⟨rfl, rfl⟩
  go_wp2
  go_ret
  exact ⟨_, rfl, his, hbel⟩

end Lm
end Go.Proofs.Ythbomfboohjcfaa
