/-
  LimbsBack answers true, whatever list of limbs and text it is handed.
-/
import Derived.Test.YtfokkkcegkbomacParse
import Derived.Lib.Strings
namespace Go.Proofs.Ytfokkkcegkbomac
namespace Lm
open Go.RowKit

theorem strOf_bytes (t : ByteArray) : strOfNums (bytesOf t) = t := by
  apply ByteArray.ext
  apply Array.toList_inj.1
  rw [strOfNums_data, bytesOf, List.map_map]
  conv => rhs; rw [← List.map_id t.data.toList]
  apply List.map_congr_left
  intro c _
  simp

theorem bytes_strOf {ds : List Int} (h : Dig ds) : bytesOf (strOfNums ds) = ds := by
  rw [bytesOf, strOfNums_data, List.map_map]
  conv => rhs; rw [← List.map_id ds]
  apply List.map_congr_left
  intro c hc
  have := h c hc
  simp only [Function.comp_apply, id]
  have e : (UInt8.ofNat c.toNat).toNat = c.toNat := by
    simp
    omega
  rw [e]
  omega

theorem dec_len {ds : List Int} {x : Int} (h : IsDec ds x) {m : Nat} (hm : 1 ≤ m) (hx : x < p10 m) : 1 ≤ ds.length ∧ ds.length ≤ m := by
  obtain ⟨h1, h2, h3⟩ := h
  rcases h3 with ⟨_, rfl⟩ | ⟨c, cs, rfl, hc⟩
  · simp; omega
  · have := dval_low h1 hc
    simp only [List.length_cons]
    refine ⟨by omega, ?_⟩
    apply Classical.byContradiction
    intro hn
    have := p10_mono (m := m) (n := cs.length) (by omega)
    omega

theorem strOf_size (ds : List Int) : (strOfNums ds).size = ds.length := strOfNums_size ds

/-- What is left of a text behind its first byte. -/
theorem bytes_tail (t : ByteArray) : bytesOf (t.extract 1 t.size) = (bytesOf t).drop 1 := by
  have : (t.extract 1 t.size).data.toList = t.data.toList.drop 1 := by
    rw [Lib.extract_data]
    rw [List.take_of_length_le (by simp)]
  rw [bytesOf, this, bytesOf, List.map_drop]

theorem tail_val {t : ByteArray} {x : Int} (h : dval (bytesOf t) = x) (h0 : (bytesOf t).getD 0 0 = 48) : dval ((bytesOf t).drop 1) = x := by
  cases hb : bytesOf t with
  | nil => rw [hb] at h; simpa using h
  | cons c cs =>
    rw [hb] at h h0
    simp at h0
    subst h0
    rw [dval_cons48] at h
    simpa using h

theorem end_dec {ds : List Int} {x : Int} (h : Dig ds) (hv : dval ds = x) (hl : 1 ≤ ds.length) (he : ds.length = 1 ∨ ds.getD 0 0 ≠ 48) : IsDec ds x := by
  refine ⟨h, hv, ?_⟩
  cases ds with
  | nil => simp at hl
  | cons c cs =>
    by_cases hc : c = 48
    · rcases he with he | he
      · have : cs = [] := List.eq_nil_of_length_eq_zero (by simpa using he)
        subst this hc
        exact .inl ⟨by rw [← hv]; simp [dval], rfl⟩
      · simp at he
        exact absurd hc he
    · exact .inr ⟨c, cs, rfl, hc⟩

def sizeOf' : Value → Nat | .string s => s.size | _ => 0

set_option maxHeartbeats 400000 in
theorem parse_long (w : World) (s : ByteArray) (h : (5120 : Int) < (s.size : Int)) :
    Calls Try.prog 14 #[.string s] w fun e w' => e = .returned (.tuple #[.slice none 0 0, .int .i64 2]) ∧ Below w.heap.size w w' := by
  go_enter Try.func14, Try.ntmps14
  go_wp2
  go_ret2
  exact ⟨rfl, Below.refl _ _⟩

set_option maxHeartbeats 400000 in
theorem parse_none (w : World) (s : ByteArray) (h : s.size = 0) :
    Calls Try.prog 14 #[.string s] w fun e w' => e = .returned (.tuple #[.slice none 0 0, .int .i64 10]) ∧ Below w.heap.size w w' := by
  have he : s = ByteArray.empty := by
    apply ByteArray.ext
    apply Array.eq_empty_of_size_eq_zero
    simpa using h
  subst he
  go_enter Try.func14, Try.ntmps14
  go_wp2
  go_ret2
  exact ⟨rfl, Below.refl _ _⟩

/-- Every text is refused, or is digits. -/
theorem parse_any (w : World) (s : ByteArray) :
    Calls Try.prog 14 #[.string s] w fun e w' => ((∃ k : Int, (k == 0) = false ∧ e = .returned (.tuple #[.slice none 0 0, .int .i64 k])) ∨ (1 ≤ s.size ∧ s.size ≤ 5120 ∧ Dig (bytesOf s) ∧ ∃ ao cap rs, e = .returned (.tuple #[.slice ao rs.length cap, .int .i64 0]) ∧ Got w' ao cap rs (dval (bytesOf s)))) ∧ Below w.heap.size w w' := by
  by_cases h1 : (5120 : Int) < (s.size : Int)
  · refine (parse_long w s h1).mono ?_
    rintro e w' ⟨rfl, hb⟩
    exact ⟨.inl ⟨2, rfl, rfl⟩, hb⟩
  · by_cases h2 : s.size = 0
    · refine (parse_none w s h2).mono ?_
      rintro e w' ⟨rfl, hb⟩
      exact ⟨.inl ⟨10, rfl, rfl⟩, hb⟩
    · refine (parse_some w s (by omega) (by omega)).mono ?_
      rintro e w' ⟨hr, hb⟩
      rcases hr with ⟨hd, v, rfl, hi⟩ | ⟨_, rfl⟩
      · obtain ⟨ao, cap, rs, rfl, hg⟩ := hi.got
        exact ⟨.inr ⟨by omega, by omega, hd, ao, cap, rs, rfl, hg⟩, hb⟩
      · exact ⟨.inl ⟨10, rfl, rfl⟩, hb⟩

/-- Below this a number's digits are at most 4000. -/
def lim : Int := p10 4000

theorem parse_text (w : World) (ds : List Int) (x : Int) (h : IsDec ds x) (hx : x < lim) :
    Calls Try.prog 14 #[.string (strOfNums ds)] w fun e w' => ∃ ao cap rs, e = .returned (.tuple #[.slice ao rs.length cap, .int .i64 0]) ∧ Got w' ao cap rs x ∧ rs.length ≤ rs.length ∧ Below w.heap.size w w' := by
  have hl := dec_len h (by omega) hx
  refine (parse_some w (strOfNums ds) (by rw [strOf_size]; omega) (by rw [strOf_size]; omega)).mono ?_
  rintro e w' ⟨hr, hb⟩
  rw [bytes_strOf h.1] at hr
  rcases hr with ⟨_, v, rfl, hi⟩ | ⟨hn, _⟩
  · rw [h.2.1] at hi
    obtain ⟨ao, cap, rs, rfl, hg⟩ := hi.got
    exact ⟨ao, cap, rs, rfl, hg, Nat.le_refl _, hb⟩
  · exact absurd h.1 hn

set_option maxHeartbeats 400000 in
theorem back_long (w : World) (a0 : Option Addr) (n0 c0 : Nat) (s : ByteArray) (h : 1500 < (n0 : Int)) :
    Calls Try.prog 4 #[.slice a0 n0 c0, .string s] w fun e w' => e = .returned (.bool true) ∧ Below w.heap.size w w' := by
  go_enter Try.func4, Try.ntmps4
  go_wp2_with fail
  refine (awake_any _).mono ?_
  rintro e w1 ⟨rfl, hb⟩
  go_wp2
  go_ret
  exact ⟨rfl, hb⟩

theorem p10_le_pw (n : Nat) : p10 n ≤ pw n := by
  induction n with
  | zero => simp [p10, pw]
  | succ n ih => simp only [p10, pw]; have := pw_pos n; omega

theorem pw_400 : pw 400 ≤ lim := pw_le_p10 400

set_option maxRecDepth 100000 in
set_option maxHeartbeats 1000000 in
theorem back_cut (w : World) (a0 : Option Addr) (n0 c0 : Nat) (xs : List Int) (s : ByteArray) (hx : Sl w (.slice a0 n0 c0) xs) (_hs : s.size ≤ 9223372036854775807) (h : ¬ 1500 < (n0 : Int)) (h4 : 400 < n0) :
    Calls Try.prog 4 #[.slice a0 n0 c0, .string s] w fun e w' => e = .returned (.bool true) ∧ Below w.heap.size w w' := by
  obtain ⟨rfl, _, _, lx⟩ := hx.parts
  have sX : Sl w (.slice a0 (400) c0) ((xs.take 400)) := hx.take (by omega)
  have hl4 : ((xs.take 400)).length ≤ 400 := (by rw [List.length_take]; omega)
  have hv4 : Hid (val ((xs.take 400)) < lim) := by
    have h1 := val_lt_pw sX.parts.2.2.2 hl4
    have h2 := pw_400
    show _ < _
    omega
  have h4' : (400 : Int) < (xs.length : Int) := by omega
  have HB := Below.refl w.heap.size w
  generalize hX : (xs.take 400) = X at sX hl4 hv4
  clear lx hX hx
  go_enter Try.func4, Try.ntmps4
  go_wp2_with fail
  refine (awake_any _).mono ?_
  rintro e w1 ⟨rfl, hb1⟩
  replace HB := HB.trans (hb1.mono HB.size)
  replace sX := sX.below hb1
  go_wp2_with fail
  refine (text_any _ _ _ _ X sX (by omega)).mono ?_
  rintro e w2 ⟨ds, rfl, hd, hb2⟩
  replace HB := HB.trans (hb2.mono HB.size)
  replace sX := sX.below hb2
  go_wp2_with fail
  refine (parse_text _ ds _ hd hv4.out).mono ?_
  rintro e w3 ⟨p3, q3, r3, rfl, G3, l3, hb3⟩
  replace HB := HB.trans (hb3.mono HB.size)
  replace sX := sX.below hb3
  go_wp2_with fail
  refine (trim_g _ _ _ _ X sX (by omega)).mono ?_
  rintro e w4 ⟨p4, q4, r4, rfl, G4, l4, hb4⟩
  replace HB := HB.trans (hb4.mono HB.size)
  replace G3 := G3.below hb4
  go_wp2_with fail
  refine (same_g _ _ _ _ _ r3 r4 _ _ G3 G4 rfl).mono ?_
  rintro e w5 ⟨rfl, hb5⟩
  replace HB := HB.trans (hb5.mono HB.size)
  go_wp2_with fail
  refine (parse_any _ s).mono ?_
  rintro e w6 ⟨hr, hb6⟩
  replace HB := HB.trans (hb6.mono HB.size)
  clear hb6
  rcases hr with ⟨k, hk, rfl⟩ | ⟨g1, g2, gd, ao, cap, rs, rfl, hg⟩
  · have hk' : (k != 0) = true := by rw [bne_iff_ne]; exact beq_eq_false_iff_ne.1 hk
    clear hk
    go_wp2
    go_ret
    exact ⟨rfl, HB⟩
  · have GD := hide gd
    have hrl : rs.length ≤ 1000000 := by
      have h7 := (dval_bounds gd).2
      rw [bytesOf_length] at h7
      have h8 := p10_mono (m := s.size) (n := 5120) g2
      have h9 : rs.length ≤ 5120 := by
        apply canon_len hg.canon
        rw [hg.val]
        have := p10_le_pw 5120
        omega
      omega
    clear gd
    go_wp2
    go_loop [1] (fun sv => ∃ t : ByteArray, sv = .string t ∧ 1 ≤ t.size ∧ t.size ≤ s.size ∧ Dig (bytesOf t) ∧ dval (bytesOf t) = dval (bytesOf s)) (fun sv => sizeOf' sv)
    case atStart => exact ⟨s, rfl, g1, Nat.le_refl _, GD.out, rfl⟩
    case round =>
      obtain ⟨t, rfl, ht1, ht2, htd, htv⟩ := hrel
      have HTD := hide htd
      have HTV := hide htv
      clear htd htv
      by_cases h1t : 1 < t.size
      · have hp : 0 < t.size := by omega
        have hgd := bytesOf_getD t 0 hp
        have h1i : (1 : Int) < (t.size : Int) := by omega
        by_cases hz : ((t[0]'hp).toNat : Int) = 48
        · have hzb : (((t[0]'hp).toNat : Int) == 48) = true := beq_iff_eq.2 hz
          have hes : (t.extract 1 t.size).size = t.size - 1 := by rw [← bytesOf_length, bytes_tail, List.length_drop, bytesOf_length]
          have R : Hid (1 ≤ (t.extract 1 t.size).size ∧ (t.extract 1 t.size).size ≤ s.size ∧ Dig (bytesOf (t.extract 1 t.size)) ∧ dval (bytesOf (t.extract 1 t.size)) = dval (bytesOf s)) :=
            ⟨by omega, by omega, by rw [bytes_tail]; exact dig_drop HTD.out 1, by rw [bytes_tail]; exact tail_val HTV.out (by rw [hgd, hz])⟩
          have HES := hide hes
          clear hes hz hgd
          go_wp2_with fail
          go_round
          case rel => exact ⟨_, rfl, R.out⟩
          case measure => simp only [sizeOf', HES.out]; omega
        · have hzb : (((t[0]'hp).toNat : Int) == 48) = false := beq_eq_false_iff_ne.2 hz
          have HF := hide (end_dec HTD.out HTV.out (by rw [bytesOf_length]; omega) (.inr (by rw [hgd]; exact hz)))
          clear hz hgd
          go_wp2_with fail
          refine (text_any _ _ _ _ rs hg.sl hrl).mono ?_
          rintro e w8 ⟨ds8, rfl, hd8, hb8⟩
          rw [hg.val] at hd8
          have e8 := isDec_one hd8 HF.out
          rw [e8, strOf_bytes]
          replace HB := HB.trans (hb8.mono HB.size)
          clear hd8 hb8 e8
          go_wp2
          go_ret
          exact ⟨rfl, HB⟩
      · have h1i : ¬ (1 : Int) < (t.size : Int) := by omega
        have HF := hide (end_dec HTD.out HTV.out (by rw [bytesOf_length]; omega) (.inl (by rw [bytesOf_length]; omega)))
        go_wp2_with fail
        refine (text_any _ _ _ _ rs hg.sl hrl).mono ?_
        rintro e w8 ⟨ds8, rfl, hd8, hb8⟩
        rw [hg.val] at hd8
        have e8 := isDec_one hd8 HF.out
        rw [e8, strOf_bytes]
        replace HB := HB.trans (hb8.mono HB.size)
        clear hd8 hb8 e8
        go_wp2
        go_ret
        exact ⟨rfl, HB⟩
set_option maxRecDepth 100000 in
set_option maxHeartbeats 1000000 in
theorem back_whole (w : World) (a0 : Option Addr) (n0 c0 : Nat) (xs : List Int) (s : ByteArray) (hx : Sl w (.slice a0 n0 c0) xs) (_hs : s.size ≤ 9223372036854775807) (h : ¬ 1500 < (n0 : Int)) (h4 : n0 ≤ 400) :
    Calls Try.prog 4 #[.slice a0 n0 c0, .string s] w fun e w' => e = .returned (.bool true) ∧ Below w.heap.size w w' := by
  obtain ⟨rfl, _, _, lx⟩ := hx.parts
  have sX : Sl w (.slice a0 (xs.length) c0) (xs) := hx
  have hl4 : (xs).length ≤ 400 := (by omega)
  have hv4 : Hid (val (xs) < lim) := by
    have h1 := val_lt_pw sX.parts.2.2.2 hl4
    have h2 := pw_400
    show _ < _
    omega
  have h4' : ¬ (400 : Int) < (xs.length : Int) := by omega
  have HB := Below.refl w.heap.size w
  generalize hX : xs = X at sX hl4 hv4
  clear lx hX hx
  go_enter Try.func4, Try.ntmps4
  go_wp2_with fail
  refine (awake_any _).mono ?_
  rintro e w1 ⟨rfl, hb1⟩
  replace HB := HB.trans (hb1.mono HB.size)
  replace sX := sX.below hb1
  go_wp2_with fail
  refine (text_any _ _ _ _ X sX (by omega)).mono ?_
  rintro e w2 ⟨ds, rfl, hd, hb2⟩
  replace HB := HB.trans (hb2.mono HB.size)
  replace sX := sX.below hb2
  go_wp2_with fail
  refine (parse_text _ ds _ hd hv4.out).mono ?_
  rintro e w3 ⟨p3, q3, r3, rfl, G3, l3, hb3⟩
  replace HB := HB.trans (hb3.mono HB.size)
  replace sX := sX.below hb3
  go_wp2_with fail
  refine (trim_g _ _ _ _ X sX (by omega)).mono ?_
  rintro e w4 ⟨p4, q4, r4, rfl, G4, l4, hb4⟩
  replace HB := HB.trans (hb4.mono HB.size)
  replace G3 := G3.below hb4
  go_wp2_with fail
  refine (same_g _ _ _ _ _ r3 r4 _ _ G3 G4 rfl).mono ?_
  rintro e w5 ⟨rfl, hb5⟩
  replace HB := HB.trans (hb5.mono HB.size)
  go_wp2_with fail
  refine (parse_any _ s).mono ?_
  rintro e w6 ⟨hr, hb6⟩
  replace HB := HB.trans (hb6.mono HB.size)
  clear hb6
  rcases hr with ⟨k, hk, rfl⟩ | ⟨g1, g2, gd, ao, cap, rs, rfl, hg⟩
  · have hk' : (k != 0) = true := by rw [bne_iff_ne]; exact beq_eq_false_iff_ne.1 hk
    clear hk
    go_wp2
    go_ret
    exact ⟨rfl, HB⟩
  · have GD := hide gd
    have hrl : rs.length ≤ 1000000 := by
      have h7 := (dval_bounds gd).2
      rw [bytesOf_length] at h7
      have h8 := p10_mono (m := s.size) (n := 5120) g2
      have h9 : rs.length ≤ 5120 := by
        apply canon_len hg.canon
        rw [hg.val]
        have := p10_le_pw 5120
        omega
      omega
    clear gd
    go_wp2
    go_loop [1] (fun sv => ∃ t : ByteArray, sv = .string t ∧ 1 ≤ t.size ∧ t.size ≤ s.size ∧ Dig (bytesOf t) ∧ dval (bytesOf t) = dval (bytesOf s)) (fun sv => sizeOf' sv)
    case atStart => exact ⟨s, rfl, g1, Nat.le_refl _, GD.out, rfl⟩
    case round =>
      obtain ⟨t, rfl, ht1, ht2, htd, htv⟩ := hrel
      have HTD := hide htd
      have HTV := hide htv
      clear htd htv
      by_cases h1t : 1 < t.size
      · have hp : 0 < t.size := by omega
        have hgd := bytesOf_getD t 0 hp
        have h1i : (1 : Int) < (t.size : Int) := by omega
        by_cases hz : ((t[0]'hp).toNat : Int) = 48
        · have hzb : (((t[0]'hp).toNat : Int) == 48) = true := beq_iff_eq.2 hz
          have hes : (t.extract 1 t.size).size = t.size - 1 := by rw [← bytesOf_length, bytes_tail, List.length_drop, bytesOf_length]
          have R : Hid (1 ≤ (t.extract 1 t.size).size ∧ (t.extract 1 t.size).size ≤ s.size ∧ Dig (bytesOf (t.extract 1 t.size)) ∧ dval (bytesOf (t.extract 1 t.size)) = dval (bytesOf s)) :=
            ⟨by omega, by omega, by rw [bytes_tail]; exact dig_drop HTD.out 1, by rw [bytes_tail]; exact tail_val HTV.out (by rw [hgd, hz])⟩
          have HES := hide hes
          clear hes hz hgd
          go_wp2_with fail
          go_round
          case rel => exact ⟨_, rfl, R.out⟩
          case measure => simp only [sizeOf', HES.out]; omega
        · have hzb : (((t[0]'hp).toNat : Int) == 48) = false := beq_eq_false_iff_ne.2 hz
          have HF := hide (end_dec HTD.out HTV.out (by rw [bytesOf_length]; omega) (.inr (by rw [hgd]; exact hz)))
          clear hz hgd
          go_wp2_with fail
          refine (text_any _ _ _ _ rs hg.sl hrl).mono ?_
          rintro e w8 ⟨ds8, rfl, hd8, hb8⟩
          rw [hg.val] at hd8
          have e8 := isDec_one hd8 HF.out
          rw [e8, strOf_bytes]
          replace HB := HB.trans (hb8.mono HB.size)
          clear hd8 hb8 e8
          go_wp2
          go_ret
          exact ⟨rfl, HB⟩
      · have h1i : ¬ (1 : Int) < (t.size : Int) := by omega
        have HF := hide (end_dec HTD.out HTV.out (by rw [bytesOf_length]; omega) (.inl (by rw [bytesOf_length]; omega)))
        go_wp2_with fail
        refine (text_any _ _ _ _ rs hg.sl hrl).mono ?_
        rintro e w8 ⟨ds8, rfl, hd8, hb8⟩
        rw [hg.val] at hd8
        have e8 := isDec_one hd8 HF.out
        rw [e8, strOf_bytes]
        replace HB := HB.trans (hb8.mono HB.size)
        clear hd8 hb8 e8
        go_wp2
        go_ret
        exact ⟨rfl, HB⟩

theorem back_law (w : World) (a0 : Option Addr) (n0 c0 : Nat) (xs : List Int) (s : ByteArray) (hx : Sl w (.slice a0 n0 c0) xs) (_b0 : n0 ≤ 35184372088832) (hs : s.size ≤ maxLen) :
    Calls Try.prog 4 #[.slice a0 n0 c0, .string s] w fun e w' => e = .returned (.bool true) ∧ Below w.heap.size w w' := by
  by_cases h : 1500 < (n0 : Int)
  · exact back_long w a0 n0 c0 s h
  · by_cases h4 : 400 < n0
    · exact back_cut w a0 n0 c0 xs s hx hs h h4
    · exact back_whole w a0 n0 c0 xs s hx hs h (by omega)

end Lm
end Go.Proofs.Ytfokkkcegkbomac
