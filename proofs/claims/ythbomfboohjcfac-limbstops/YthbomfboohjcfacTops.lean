/-
  LimbsTops answers true, whatever two lists of limbs and number it is handed.
-/
import Derived.Test.YthbomfboohjcfacLhG
import Derived.Laws.CopyOwn
namespace Go.Proofs.Ythbomfboohjcfac
namespace Lm
open Go.RowKit

theorem size32 : (Try.prog.info? 27).map (·.size) = some 1 := by kernel_rfl

/-- A copy into a block: that block alone is written. -/
theorem copy_wr {w : World} {ops : Array Oper} {rest : List Oper} {o : Oper} {a : Act} {Q : Exit → Act → World → Prop} (hgd : o.guard = none) (d s : Operand) (dT sT : TypeId)
    (ho : o.op = .call { callee := .builtin .copy, args := #[d, s], argTypes := #[dT, sT] }) (elem : TypeId) (hu : Try.prog.underlying dT = some (.slice elem)) (hsz : (Try.prog.info? elem).map (·.size) = some 1)
    (dp sp : Option Addr) (dLen dCap sLen sCap : Nat) (hd : a.eval d = .slice dp dLen dCap) (hs : a.eval s = .slice sp sLen sCap)
    (g off : Nat) (cur : List Value) (t : TypeId) (hg : w.heap[g]? = some (.cells cur.toArray t (0, 0))) (cs : List Value) (hn : cs.length = Nat.min sLen dLen)
    (hpos : 0 < cs.length → dp = some ⟨g, off, none⟩ ∧ ∃ ad, sp = some ad ∧ ∀ j v, cs[j]? = some v → w.cell? (ad.add j) = some v)
    (hfit : off + cs.length ≤ cur.length) (h1 : ∀ v ∈ cs, v.oneCell' = true)
    (h : ∀ w', Hid (Wr w w' g (splice cur off cs).toArray t) → wpList Try.prog ops Q rest (a.put o.dst (goInt cs.length)) w') :
    wpList Try.prog ops Q (o :: rest) a w := by
  by_cases h0 : cs.length = 0
  · obtain rfl : cs = [] := List.eq_nil_of_length_eq_zero h0
    refine wpList_copy_nothing hgd d s dT sT ho elem hu hsz dp sp dLen dCap sLen sCap hd hs (by simpa using hn.symm) ?_
    exact h w (Wr.refl (by simpa [splice] using hg))
  · obtain ⟨rfl, ad, rfl, hsrc⟩ := hpos (by omega)
    refine wpList_copy_own hgd d s dT sT ho elem hu hsz g off dLen dCap ad sLen sCap hd hs cur.toArray t hg cs hn hsrc (by simpa using hfit) h1 ?_
    exact h _ ⟨rfl, rfl, rfl, by simp [World.setRow], by simpa [splice] using setRow_heap w g _ _ t _ hg, fun k hk => setRow_other w g k _ hk⟩

theorem trow_cells {w : World} {b off : Nat} {zs : List Int} (hc : ∀ i, i < zs.length → w.cell? ⟨b, off + i, none⟩ = some (.int .u32 (zs.getD i 0))) : ∀ j u, (zs.map (Value.int .u32))[j]? = some u → w.cell? ((⟨b, off, none⟩ : Addr).add j) = some u := by
  intro j u hu
  rw [List.getElem?_map] at hu
  have hj : j < zs.length := by
    apply Classical.byContradiction
    intro hn
    rw [List.getElem?_eq_none (by omega)] at hu
    cases hu
  rw [List.getElem?_eq_getElem hj] at hu
  have hcj := hc j hj
  rw [List.getD_eq_getElem?_getD, List.getElem?_eq_getElem hj] at hcj
  rw [show ((⟨b, off, none⟩ : Addr).add j) = ⟨b, off + j, none⟩ from by simp [Addr.add], hcj]
  exact hu

theorem trow_one (zs : List Int) : ∀ u ∈ zs.map (Value.int .u32), u.oneCell' = true := by
  intro u hu
  obtain ⟨z, _, rfl⟩ := List.mem_map.1 hu
  rfl

theorem at_spliced {cur : Array Value} {xs : List Int} {e : Nat} (ha : At cur .u32 0 (List.replicate (xs.length + e) 0)) : At (splice cur.toList 0 (xs.map (Value.int .u32))).toArray .u32 0 (xs ++ List.replicate e 0) := by
  intro i hi
  rw [List.length_append, List.length_replicate] at hi
  rw [Nat.zero_add, List.getElem?_toArray, splice, List.take_zero, List.nil_append]
  by_cases h1 : i < xs.length
  · rw [List.getElem?_append_left (by rw [List.length_map]; exact h1), List.getElem?_map, List.getElem?_eq_getElem h1, List.getD_eq_getElem?_getD, List.getElem?_append_left h1, List.getElem?_eq_getElem h1]
    rfl
  · rw [List.getElem?_append_right (by rw [List.length_map]; omega), List.length_map, List.getElem?_drop, Array.getElem?_toList]
    have e1 := ha i (by rw [List.length_replicate]; omega)
    rw [Nat.zero_add] at e1
    rw [show 0 + xs.length + (i - xs.length) = i by omega, e1, List.getD_eq_getElem?_getD, List.getD_eq_getElem?_getD, List.getElem?_replicate, if_pos (by omega), List.getElem?_append_right (by omega), List.getElem?_replicate, if_pos (by omega)]

theorem val_topped (xs : List Int) (e : Nat) : val (xs ++ List.replicate e 0) = val xs := by
  rw [val_append, val_zeros, Int.mul_zero, Int.add_zero]

theorem and_three (k : Int) : ∃ e : Nat, bits .and .i64 k 3 = (e : Int) ∧ e ≤ 3 := by
  have e : bits .and .i64 k 3 = IntKind.i64.wrap ((BitVec.ofInt 64 k &&& BitVec.ofInt 64 3).toNat : Int) := rfl
  have h1 : (BitVec.ofInt 64 k &&& BitVec.ofInt 64 3).toNat ≤ 3 := by
    rw [BitVec.toNat_and]
    exact Nat.le_trans Nat.and_le_right (by decide)
  generalize (BitVec.ofInt 64 k &&& BitVec.ofInt 64 3).toNat = x at e h1
  have e2 : IntKind.i64.wrap (x : Int) = x := by
    simp [IntKind.wrap, IntKind.bits, IntKind.signed]
    omega
  exact ⟨x, by rw [e, e2], h1⟩

theorem got_nil (w : World) : Got w none 0 [] 0 := ⟨sl_nil w, canon_nil, rfl⟩

theorem tgcd_g (w : World) (a1 a2 : Option Addr) (n1 n2 c1 c2 : Nat) (xs ys : List Int) (hx : Sl w (.slice a1 n1 c1) xs) (hy : Sl w (.slice a2 n2 c2) ys) (hm1 : xs.length ≤ 400000) (hm2 : ys.length ≤ 400000) :
    Calls Try.prog 22 #[.slice a1 n1 c1, .slice a2 n2 c2] w fun e w' => ∃ ao cap rs, e = .returned (.slice ao rs.length cap) ∧ Got w' ao cap rs (Int.gcd (val xs) (val ys)) ∧ True ∧ Below w.heap.size w w' := by
  refine (gcd_any w a1 a2 n1 n2 c1 c2 xs ys hx hy hm1 hm2).mono ?_
  rintro e w' ⟨v, rfl, hi, hb⟩
  obtain ⟨ao, cap, rs, rfl, hg⟩ := hi.got
  exact ⟨ao, cap, rs, rfl, hg, trivial, hb⟩

set_option maxRecDepth 20000 in
set_option maxHeartbeats 400000 in
theorem tops_long (w : World) (a0 a1 : Option Addr) (n0 n1 c0 c1 : Nat) (k : Int) (h : 1500 < (n0 : Int) + n1) (b0 : n0 ≤ 35184372088832) (b1 : n1 ≤ 35184372088832) :
    Calls Try.prog 5 #[.slice a0 n0 c0, .slice a1 n1 c1, .int .i64 k] w fun e w' => e = .returned (.bool true) ∧ Below w.heap.size w w' := by
  go_enter Try.func5, Try.ntmps5
  go_wp2_with fail
  refine (awake_any _).mono ?_
  rintro e w1 ⟨rfl, hb⟩
  go_wp2
  go_ret
  exact ⟨rfl, hb⟩

set_option maxRecDepth 20000 in
set_option maxHeartbeats 2000000 in
theorem tops_short (w : World) (a0 a1 : Option Addr) (n0 n1 c0 c1 : Nat) (xs ys : List Int) (k : Int) (hx : Sl w (.slice a0 n0 c0) xs) (hy : Sl w (.slice a1 n1 c1) ys) (h : ¬ 1500 < (n0 : Int) + n1) :
    Calls Try.prog 5 #[.slice a0 n0 c0, .slice a1 n1 c1, .int .i64 k] w fun e w' => e = .returned (.bool true) ∧ Below w.heap.size w w' := by
  obtain ⟨rfl, _, _, lx⟩ := hx.parts
  obtain ⟨rfl, _, _, ly⟩ := hy.parts
  obtain ⟨e1, k1, h1⟩ := and_three k
  obtain ⟨e2, k2, h2⟩ := and_three (k / 4)
  obtain ⟨i0, hi, hz0, hz1, hz2⟩ := info_parts info32
  have LX := hide lx
  have LY := hide ly
  have HB := Below.refl w.heap.size w
  have hx0 := hx
  have hy0 := hy
  clear lx ly
  go_enter Try.func5, Try.ntmps5
  go_wp2_with fail
  refine (awake_any _).mono ?_
  rintro e w1 ⟨rfl, hb1⟩
  replace HB := HB.trans (hb1.mono HB.size)
  replace hx := hx.below hb1
  replace hy := hy.below hb1
  go_wp2_with (refine wpList_make_full _ rfl (.tmp 32) (.tmp 32) 22 rfl w1.heap.size 27 i0 (.int .u32 0) 1 Try.underlying22 hi hz0 hz1 .i64 .i64 _ _ (xs.length + (1 + e1)) rfl rfl (by omega) (by omega) (by rw [hz2]; omega) (by unfold maxLen; omega) (Nat.le_refl _) ?hK)
  case hK =>
    intro w2 hown hgrow
    obtain ⟨_, cx, hhx, hcsx, hatx⟩ := block_of_made hown
    have hb2 : Below w1.heap.size w1 w2 := (Below.refl w1.heap.size w1).grown hgrow (Nat.le_refl _) (by simp)
    have H1 := hide hhx
    have H2 := hide hcsx
    have H3 := hide hatx
    replace HB := HB.trans (hb2.mono HB.size)
    replace hx := hx.below hb2
    replace hy := hy.below hb2
    clear hown hgrow hhx hcsx hatx
    go_wp2_with (refine wpList_make_full _ rfl (.tmp 40) (.tmp 40) 22 rfl w2.heap.size 27 i0 (.int .u32 0) 1 Try.underlying22 hi hz0 hz1 .i64 .i64 _ _ (ys.length + (1 + e2)) rfl rfl (by omega) (by omega) (by rw [hz2]; omega) (by unfold maxLen; omega) (Nat.le_refl _) ?hK2)
    case hK2 =>
      intro w3 hown hgrow
      obtain ⟨_, cy, hhy, hcsy, haty⟩ := block_of_made hown
      have hb3 : Below w2.heap.size w2 w3 := (Below.refl w2.heap.size w2).grown hgrow (Nat.le_refl _) (by simp)
      have s12 := lt_of_heap H1.out
      have H1' : w3.heap[w1.heap.size]? = some (.cells cx.toList.toArray 27 (0, 0)) := by rw [Array.toArray_toList]; exact (hb3.block _ s12).trans H1.out
      have H4 := hide hhy
      have H5 := hide hcsy
      have H6 := hide haty
      replace HB := HB.trans (hb3.mono HB.size)
      replace hx := hx.below hb3
      replace hy := hy.below hb3
      have hpx : 0 < (xs.map (Value.int .u32)).length → (some ⟨w1.heap.size, 0, none⟩ : Option Addr) = some ⟨w1.heap.size, 0, none⟩ ∧ ∃ ad, a0 = some ad ∧ ∀ j v, (xs.map (Value.int .u32))[j]? = some v → w3.cell? (ad.add j) = some v := by
        intro h0
        rw [List.length_map] at h0
        obtain ⟨b, off, rfl, hc⟩ := hx.cells h0
        exact ⟨rfl, _, rfl, trow_cells hc⟩
      clear hown hgrow hhy hcsy haty
      go_wp2_with (refine copy_wr rfl (.tmp 42) (.tmp 43) 22 22 rfl 27 Try.underlying22 size32 _ _ _ _ _ _ rfl rfl w1.heap.size 0 cx.toList 27 H1' (xs.map (Value.int .u32)) (by simp) hpx ?hfx (trow_one xs) ?h4)
      case hfx => have := H2.out; simp; omega
      case h4 =>
        intro w4 W4
        have w4sz := W4.out.size
        have hgy : w4.heap[w2.heap.size]? = some (.cells cy.toList.toArray 27 (0, 0)) := by rw [Array.toArray_toList, W4.out.other _ (by omega)]; exact H4.out
        have HB4 := HB.trans (W4.out.below (show w.heap.size ≤ w1.heap.size by have := hb1.size; omega))
        have hy4 := hy0.below HB4
        have hpy : 0 < (ys.map (Value.int .u32)).length → (some ⟨w2.heap.size, 0, none⟩ : Option Addr) = some ⟨w2.heap.size, 0, none⟩ ∧ ∃ ad, a1 = some ad ∧ ∀ j v, (ys.map (Value.int .u32))[j]? = some v → w4.cell? (ad.add j) = some v := by
          intro h0
          rw [List.length_map] at h0
          obtain ⟨b, off, rfl, hc⟩ := hy4.cells h0
          exact ⟨rfl, _, rfl, trow_cells hc⟩
        clear hpx H1'
        go_wp2_with (refine copy_wr rfl (.tmp 45) (.tmp 46) 22 22 rfl 27 Try.underlying22 size32 _ _ _ _ _ _ rfl rfl w2.heap.size 0 cy.toList 27 hgy (ys.map (Value.int .u32)) (by simp) hpy ?hfy (trow_one ys) ?h5)
        case hfy => have := H5.out; simp; omega
        case h5 =>
          intro w5 W5
          have SX : Sl w5 (.slice (some ⟨w1.heap.size, 0, none⟩) (xs.length + (1 + e1)) (xs.length + (1 + e1))) (xs ++ List.replicate (1 + e1) 0) := by
            refine Ow.sl (B := 0) ⟨_, xs.length + (1 + e1), by simp, by simp, by unfold maxLen; omega, limb_append.2 ⟨LX.out, limb_zeros _⟩, .inr ⟨_, 0, _, rfl, Nat.zero_le _, (W5.out.other _ (by omega)).trans W4.out.here, ?_, at_spliced H3.out⟩⟩
            have h9 := length_splice cx.toList 0 (xs.map (Value.int .u32)) (by have := H2.out; simp; omega)
            have h8 : cx.toList.length = cx.size := Array.length_toList
            have h7 := H2.out
            rw [List.size_toArray, h9]
            omega
          have SY : Sl w5 (.slice (some ⟨w2.heap.size, 0, none⟩) (ys.length + (1 + e2)) (ys.length + (1 + e2))) (ys ++ List.replicate (1 + e2) 0) := by
            refine Ow.sl (B := 0) ⟨_, ys.length + (1 + e2), by simp, by simp, by unfold maxLen; omega, limb_append.2 ⟨LY.out, limb_zeros _⟩, .inr ⟨_, 0, _, rfl, Nat.zero_le _, W5.out.here, ?_, at_spliced H6.out⟩⟩
            have h9 := length_splice cy.toList 0 (ys.map (Value.int .u32)) (by have := H5.out; simp; omega)
            have h8 : cy.toList.length = cy.size := Array.length_toList
            have h7 := H5.out
            rw [List.size_toArray, h9]
            omega
          have HB5 := HB4.trans (W5.out.below (show w.heap.size ≤ w2.heap.size by have := hb1.size; omega))
          have hx5 := hx0.below HB5
          have hy5 := hy0.below HB5
          have VX := hide (val_topped xs (1 + e1))
          have VY := hide (val_topped ys (1 + e2))
          have LXT : (xs ++ List.replicate (1 + e1) (0 : Int)).length ≤ 2000 := by simp; omega
          have LYT : (ys ++ List.replicate (1 + e2) (0 : Int)).length ≤ 2000 := by simp; omega
          generalize xs ++ List.replicate (1 + e1) (0 : Int) = X at SX VX LXT
          generalize ys ++ List.replicate (1 + e2) (0 : Int) = Y at SY VY LYT
          clear HB hx hy hx0 hy0 hpy hgy hy4 HB4 W4 W5 hb1 hb2 hb3 H1 H2 H3 H4 H5 H6
          have HB := HB5
          have hx := hx5
          have hy := hy5
          clear HB5 hx5 hy5
          have K1 : Hid (cmpI (val X) (val xs) = 0) := cmpI_eq VX.out
          obtain ⟨kc, hkc⟩ : ∃ k, cmpI (val xs) (val ys) = k := ⟨_, rfl⟩
          have K3 := hide hkc
          have K2 : Hid (cmpI (val X) (val Y) = kc) := by rw [VX.out, VY.out]; exact hkc
          have V0 := hide (And.intro (val_bounds LX.out).1 (val_bounds LY.out).1)
          clear hkc
          by_cases hz : val ys = 0
          · have HZ := hide hz
            have HL : Hid (val ys ≤ val xs) := by have := V0.out; show _ ≤ _; omega
            clear hz
            go_wp2_with fail
            refine (divmod_none _ _ _ _ _ _ _ xs ys hx hy HZ.out).mono ?_
            rintro e w6 ⟨rfl, hb6⟩
            replace HB := HB.trans (hb6.mono HB.size)
            replace hx := hx.below hb6
            replace hy := hy.below hb6
            replace SX := SX.below hb6
            replace SY := SY.below hb6
            go_wp2_with fail
            refine (divmod_none _ _ _ _ _ _ _ X Y SX SY (by rw [VY.out]; exact HZ.out)).mono ?_
            rintro e w7 ⟨rfl, hb7⟩
            replace HB := HB.trans (hb7.mono HB.size)
            replace hx := hx.below hb7
            replace hy := hy.below hb7
            replace SX := SX.below hb7
            replace SY := SY.below hb7
            go_wp2_with fail
            refine (sub_g _ _ _ _ _ _ _ xs ys hx hy (by omega) HL.out).mono ?_
            rintro e w10 ⟨p10, q10, r10, rfl, G10, l10, hb10⟩
            replace HB := HB.trans (hb10.mono HB.size)
            replace hx := hx.below hb10
            replace hy := hy.below hb10
            replace SX := SX.below hb10
            replace SY := SY.below hb10
            go_wp2_with fail
            refine (sub_g _ _ _ _ _ _ _ X Y SX SY (by omega) (by rw [VX.out, VY.out]; exact HL.out)).mono ?_
            rintro e w11 ⟨p11, q11, r11, rfl, G11, l11, hb11⟩
            replace HB := HB.trans (hb11.mono HB.size)
            replace hx := hx.below hb11
            replace hy := hy.below hb11
            replace SX := SX.below hb11
            replace SY := SY.below hb11
            replace G10 := G10.below hb11
            go_wp2_with fail
            refine (cmp_any _ _ _ _ _ _ _ X xs SX hx).mono ?_
            rintro e w12 ⟨rfl, hb12⟩
            replace HB := HB.trans (hb12.mono HB.size)
            replace hx := hx.below hb12
            replace hy := hy.below hb12
            replace SX := SX.below hb12
            replace SY := SY.below hb12
            replace G10 := G10.below hb12
            replace G11 := G11.below hb12
            rw [K1.out]
            go_wp2_with fail
            refine (cmp_any _ _ _ _ _ _ _ X Y SX SY).mono ?_
            rintro e w13 ⟨rfl, hb13⟩
            replace HB := HB.trans (hb13.mono HB.size)
            replace hx := hx.below hb13
            replace hy := hy.below hb13
            replace SX := SX.below hb13
            replace SY := SY.below hb13
            replace G10 := G10.below hb13
            replace G11 := G11.below hb13
            rw [K2.out]
            go_wp2_with fail
            refine (cmp_any _ _ _ _ _ _ _ xs ys hx hy).mono ?_
            rintro e w14 ⟨rfl, hb14⟩
            replace HB := HB.trans (hb14.mono HB.size)
            replace hx := hx.below hb14
            replace hy := hy.below hb14
            replace SX := SX.below hb14
            replace SY := SY.below hb14
            replace G10 := G10.below hb14
            replace G11 := G11.below hb14
            rw [K3.out]
            go_wp2_with fail
            refine (trim_g _ _ _ _ X SX (by omega)).mono ?_
            rintro e w15 ⟨p15, q15, r15, rfl, G15, l15, hb15⟩
            replace HB := HB.trans (hb15.mono HB.size)
            replace hx := hx.below hb15
            replace hy := hy.below hb15
            replace SX := SX.below hb15
            replace SY := SY.below hb15
            replace G10 := G10.below hb15
            replace G11 := G11.below hb15
            go_wp2_with fail
            refine (trim_g _ _ _ _ xs hx (by omega)).mono ?_
            rintro e w16 ⟨p16, q16, r16, rfl, G16, l16, hb16⟩
            replace HB := HB.trans (hb16.mono HB.size)
            replace hx := hx.below hb16
            replace hy := hy.below hb16
            replace SX := SX.below hb16
            replace SY := SY.below hb16
            replace G10 := G10.below hb16
            replace G11 := G11.below hb16
            replace G15 := G15.below hb16
            go_wp2_with fail
            refine (same_g _ _ _ _ _ r15 r16 _ _ G15 G16 VX.out).mono ?_
            rintro e w17 ⟨rfl, hb17⟩
            replace HB := HB.trans (hb17.mono HB.size)
            replace hx := hx.below hb17
            replace hy := hy.below hb17
            replace SX := SX.below hb17
            replace SY := SY.below hb17
            replace G10 := G10.below hb17
            replace G11 := G11.below hb17
            go_wp2_with fail
            refine (add_g _ _ _ _ _ _ _ X Y SX SY (by omega) (by omega)).mono ?_
            rintro e w18 ⟨p18, q18, r18, rfl, G18, l18, hb18⟩
            replace HB := HB.trans (hb18.mono HB.size)
            replace hx := hx.below hb18
            replace hy := hy.below hb18
            replace SX := SX.below hb18
            replace SY := SY.below hb18
            replace G10 := G10.below hb18
            replace G11 := G11.below hb18
            go_wp2_with fail
            refine (add_g _ _ _ _ _ _ _ xs ys hx hy (by omega) (by omega)).mono ?_
            rintro e w19 ⟨p19, q19, r19, rfl, G19, l19, hb19⟩
            replace HB := HB.trans (hb19.mono HB.size)
            replace hx := hx.below hb19
            replace hy := hy.below hb19
            replace SX := SX.below hb19
            replace SY := SY.below hb19
            replace G10 := G10.below hb19
            replace G11 := G11.below hb19
            replace G18 := G18.below hb19
            go_wp2_with fail
            refine (same_g _ _ _ _ _ r18 r19 _ _ G18 G19 (by rw [VX.out, VY.out])).mono ?_
            rintro e w20 ⟨rfl, hb20⟩
            replace HB := HB.trans (hb20.mono HB.size)
            replace hx := hx.below hb20
            replace hy := hy.below hb20
            replace SX := SX.below hb20
            replace SY := SY.below hb20
            replace G10 := G10.below hb20
            replace G11 := G11.below hb20
            go_wp2_with fail
            refine (mul_g _ _ _ _ _ _ _ X Y SX SY (by omega) (by omega)).mono ?_
            rintro e w21 ⟨p21, q21, r21, rfl, G21, l21, hb21⟩
            replace HB := HB.trans (hb21.mono HB.size)
            replace hx := hx.below hb21
            replace hy := hy.below hb21
            replace SX := SX.below hb21
            replace SY := SY.below hb21
            replace G10 := G10.below hb21
            replace G11 := G11.below hb21
            go_wp2_with fail
            refine (mul_g _ _ _ _ _ _ _ xs ys hx hy (by omega) (by omega)).mono ?_
            rintro e w22 ⟨p22, q22, r22, rfl, G22, l22, hb22⟩
            replace HB := HB.trans (hb22.mono HB.size)
            replace hx := hx.below hb22
            replace hy := hy.below hb22
            replace SX := SX.below hb22
            replace SY := SY.below hb22
            replace G10 := G10.below hb22
            replace G11 := G11.below hb22
            replace G21 := G21.below hb22
            go_wp2_with fail
            refine (same_g _ _ _ _ _ r21 r22 _ _ G21 G22 (by rw [VX.out, VY.out])).mono ?_
            rintro e w23 ⟨rfl, hb23⟩
            replace HB := HB.trans (hb23.mono HB.size)
            replace hx := hx.below hb23
            replace hy := hy.below hb23
            replace SX := SX.below hb23
            replace SY := SY.below hb23
            replace G10 := G10.below hb23
            replace G11 := G11.below hb23
            go_wp2_with fail
            refine (same_g _ _ _ _ _ [] [] _ _ (got_nil _) (got_nil _) rfl).mono ?_
            rintro e w24 ⟨rfl, hb24⟩
            replace HB := HB.trans (hb24.mono HB.size)
            replace hx := hx.below hb24
            replace hy := hy.below hb24
            replace SX := SX.below hb24
            replace SY := SY.below hb24
            replace G10 := G10.below hb24
            replace G11 := G11.below hb24
            go_wp2_with fail
            refine (same_g _ _ _ _ _ [] [] _ _ (got_nil _) (got_nil _) rfl).mono ?_
            rintro e w25 ⟨rfl, hb25⟩
            replace HB := HB.trans (hb25.mono HB.size)
            replace hx := hx.below hb25
            replace hy := hy.below hb25
            replace SX := SX.below hb25
            replace SY := SY.below hb25
            replace G10 := G10.below hb25
            replace G11 := G11.below hb25
            go_wp2_with fail
            refine (same_g _ _ _ _ _ r11 r10 _ _ G11 G10 (by rw [VX.out, VY.out])).mono ?_
            rintro e w26 ⟨rfl, hb26⟩
            replace HB := HB.trans (hb26.mono HB.size)
            replace hx := hx.below hb26
            replace hy := hy.below hb26
            replace SX := SX.below hb26
            replace SY := SY.below hb26
            replace G10 := G10.below hb26
            replace G11 := G11.below hb26
            go_wp2_with fail
            refine (tgcd_g _ _ _ _ _ _ _ X Y SX SY (by omega) (by omega)).mono ?_
            rintro e w27 ⟨p27, q27, r27, rfl, G27, l27, hb27⟩
            replace HB := HB.trans (hb27.mono HB.size)
            replace hx := hx.below hb27
            replace hy := hy.below hb27
            replace SX := SX.below hb27
            replace SY := SY.below hb27
            go_wp2_with fail
            refine (tgcd_g _ _ _ _ _ _ _ xs ys hx hy (by omega) (by omega)).mono ?_
            rintro e w28 ⟨p28, q28, r28, rfl, G28, l28, hb28⟩
            replace HB := HB.trans (hb28.mono HB.size)
            replace hx := hx.below hb28
            replace hy := hy.below hb28
            replace SX := SX.below hb28
            replace SY := SY.below hb28
            replace G27 := G27.below hb28
            go_wp2_with fail
            refine (same_g _ _ _ _ _ r27 r28 _ _ G27 G28 (by rw [VX.out, VY.out])).mono ?_
            rintro e w29 ⟨rfl, hb29⟩
            replace HB := HB.trans (hb29.mono HB.size)
            replace hx := hx.below hb29
            replace hy := hy.below hb29
            replace SX := SX.below hb29
            replace SY := SY.below hb29
            go_wp2_with fail
            refine (bits_any _ _ _ _ X SX (by omega)).mono ?_
            rintro e w30 ⟨lb, rfl, t1, rfl⟩
            go_wp2_with fail
            refine (bits_any _ _ _ _ xs hx (by omega)).mono ?_
            rintro e w30 ⟨lb2, rfl, t2, rfl⟩
            rw [VX.out] at t1
            have hlb := isBits_one t1 t2
            subst hlb
            clear t1 t2
            go_wp2_with fail
            refine (text_any _ _ _ _ X SX (by omega)).mono ?_
            rintro e w31 ⟨ds, rfl, hd, hb31⟩
            replace HB := HB.trans (hb31.mono HB.size)
            replace hx := hx.below hb31
            rw [VX.out] at hd
            go_wp2_with fail
            refine (text_any _ _ _ _ xs hx (by omega)).mono ?_
            rintro e w32 ⟨es, rfl, he, hb32⟩
            replace HB := HB.trans (hb32.mono HB.size)
            have hde := isDec_one hd he
            subst hde
            clear hd he
            go_wp2
            go_ret
            exact ⟨rfl, HB⟩
          · have HZ := hide hz
            clear hz
            by_cases hl : val ys ≤ val xs
            · have HL := hide hl
              clear hl
              go_wp2_with fail
              refine (divmod_g _ _ _ _ _ _ _ xs ys hx hy (by omega) HZ.out).mono ?_
              rintro e w6 ⟨p6, q6, r6, p7, q7, r7, rfl, G6, G7, l6, l7, hb6⟩
              replace HB := HB.trans (hb6.mono HB.size)
              replace hx := hx.below hb6
              replace hy := hy.below hb6
              replace SX := SX.below hb6
              replace SY := SY.below hb6
              go_wp2_with fail
              refine (divmod_g _ _ _ _ _ _ _ X Y SX SY (by omega) (by rw [VY.out]; exact HZ.out)).mono ?_
              rintro e w8 ⟨p8, q8, r8, p9, q9, r9, rfl, G8, G9, l8, l9, hb8⟩
              replace HB := HB.trans (hb8.mono HB.size)
              replace hx := hx.below hb8
              replace hy := hy.below hb8
              replace SX := SX.below hb8
              replace SY := SY.below hb8
              replace G6 := G6.below hb8
              replace G7 := G7.below hb8
              go_wp2_with fail
              refine (sub_g _ _ _ _ _ _ _ xs ys hx hy (by omega) HL.out).mono ?_
              rintro e w10 ⟨p10, q10, r10, rfl, G10, l10, hb10⟩
              replace HB := HB.trans (hb10.mono HB.size)
              replace hx := hx.below hb10
              replace hy := hy.below hb10
              replace SX := SX.below hb10
              replace SY := SY.below hb10
              replace G6 := G6.below hb10
              replace G7 := G7.below hb10
              replace G8 := G8.below hb10
              replace G9 := G9.below hb10
              go_wp2_with fail
              refine (sub_g _ _ _ _ _ _ _ X Y SX SY (by omega) (by rw [VX.out, VY.out]; exact HL.out)).mono ?_
              rintro e w11 ⟨p11, q11, r11, rfl, G11, l11, hb11⟩
              replace HB := HB.trans (hb11.mono HB.size)
              replace hx := hx.below hb11
              replace hy := hy.below hb11
              replace SX := SX.below hb11
              replace SY := SY.below hb11
              replace G6 := G6.below hb11
              replace G7 := G7.below hb11
              replace G8 := G8.below hb11
              replace G9 := G9.below hb11
              replace G10 := G10.below hb11
              go_wp2_with fail
              refine (cmp_any _ _ _ _ _ _ _ X xs SX hx).mono ?_
              rintro e w12 ⟨rfl, hb12⟩
              replace HB := HB.trans (hb12.mono HB.size)
              replace hx := hx.below hb12
              replace hy := hy.below hb12
              replace SX := SX.below hb12
              replace SY := SY.below hb12
              replace G6 := G6.below hb12
              replace G7 := G7.below hb12
              replace G8 := G8.below hb12
              replace G9 := G9.below hb12
              replace G10 := G10.below hb12
              replace G11 := G11.below hb12
              rw [K1.out]
              go_wp2_with fail
              refine (cmp_any _ _ _ _ _ _ _ X Y SX SY).mono ?_
              rintro e w13 ⟨rfl, hb13⟩
              replace HB := HB.trans (hb13.mono HB.size)
              replace hx := hx.below hb13
              replace hy := hy.below hb13
              replace SX := SX.below hb13
              replace SY := SY.below hb13
              replace G6 := G6.below hb13
              replace G7 := G7.below hb13
              replace G8 := G8.below hb13
              replace G9 := G9.below hb13
              replace G10 := G10.below hb13
              replace G11 := G11.below hb13
              rw [K2.out]
              go_wp2_with fail
              refine (cmp_any _ _ _ _ _ _ _ xs ys hx hy).mono ?_
              rintro e w14 ⟨rfl, hb14⟩
              replace HB := HB.trans (hb14.mono HB.size)
              replace hx := hx.below hb14
              replace hy := hy.below hb14
              replace SX := SX.below hb14
              replace SY := SY.below hb14
              replace G6 := G6.below hb14
              replace G7 := G7.below hb14
              replace G8 := G8.below hb14
              replace G9 := G9.below hb14
              replace G10 := G10.below hb14
              replace G11 := G11.below hb14
              rw [K3.out]
              go_wp2_with fail
              refine (trim_g _ _ _ _ X SX (by omega)).mono ?_
              rintro e w15 ⟨p15, q15, r15, rfl, G15, l15, hb15⟩
              replace HB := HB.trans (hb15.mono HB.size)
              replace hx := hx.below hb15
              replace hy := hy.below hb15
              replace SX := SX.below hb15
              replace SY := SY.below hb15
              replace G6 := G6.below hb15
              replace G7 := G7.below hb15
              replace G8 := G8.below hb15
              replace G9 := G9.below hb15
              replace G10 := G10.below hb15
              replace G11 := G11.below hb15
              go_wp2_with fail
              refine (trim_g _ _ _ _ xs hx (by omega)).mono ?_
              rintro e w16 ⟨p16, q16, r16, rfl, G16, l16, hb16⟩
              replace HB := HB.trans (hb16.mono HB.size)
              replace hx := hx.below hb16
              replace hy := hy.below hb16
              replace SX := SX.below hb16
              replace SY := SY.below hb16
              replace G6 := G6.below hb16
              replace G7 := G7.below hb16
              replace G8 := G8.below hb16
              replace G9 := G9.below hb16
              replace G10 := G10.below hb16
              replace G11 := G11.below hb16
              replace G15 := G15.below hb16
              go_wp2_with fail
              refine (same_g _ _ _ _ _ r15 r16 _ _ G15 G16 VX.out).mono ?_
              rintro e w17 ⟨rfl, hb17⟩
              replace HB := HB.trans (hb17.mono HB.size)
              replace hx := hx.below hb17
              replace hy := hy.below hb17
              replace SX := SX.below hb17
              replace SY := SY.below hb17
              replace G6 := G6.below hb17
              replace G7 := G7.below hb17
              replace G8 := G8.below hb17
              replace G9 := G9.below hb17
              replace G10 := G10.below hb17
              replace G11 := G11.below hb17
              go_wp2_with fail
              refine (add_g _ _ _ _ _ _ _ X Y SX SY (by omega) (by omega)).mono ?_
              rintro e w18 ⟨p18, q18, r18, rfl, G18, l18, hb18⟩
              replace HB := HB.trans (hb18.mono HB.size)
              replace hx := hx.below hb18
              replace hy := hy.below hb18
              replace SX := SX.below hb18
              replace SY := SY.below hb18
              replace G6 := G6.below hb18
              replace G7 := G7.below hb18
              replace G8 := G8.below hb18
              replace G9 := G9.below hb18
              replace G10 := G10.below hb18
              replace G11 := G11.below hb18
              go_wp2_with fail
              refine (add_g _ _ _ _ _ _ _ xs ys hx hy (by omega) (by omega)).mono ?_
              rintro e w19 ⟨p19, q19, r19, rfl, G19, l19, hb19⟩
              replace HB := HB.trans (hb19.mono HB.size)
              replace hx := hx.below hb19
              replace hy := hy.below hb19
              replace SX := SX.below hb19
              replace SY := SY.below hb19
              replace G6 := G6.below hb19
              replace G7 := G7.below hb19
              replace G8 := G8.below hb19
              replace G9 := G9.below hb19
              replace G10 := G10.below hb19
              replace G11 := G11.below hb19
              replace G18 := G18.below hb19
              go_wp2_with fail
              refine (same_g _ _ _ _ _ r18 r19 _ _ G18 G19 (by rw [VX.out, VY.out])).mono ?_
              rintro e w20 ⟨rfl, hb20⟩
              replace HB := HB.trans (hb20.mono HB.size)
              replace hx := hx.below hb20
              replace hy := hy.below hb20
              replace SX := SX.below hb20
              replace SY := SY.below hb20
              replace G6 := G6.below hb20
              replace G7 := G7.below hb20
              replace G8 := G8.below hb20
              replace G9 := G9.below hb20
              replace G10 := G10.below hb20
              replace G11 := G11.below hb20
              go_wp2_with fail
              refine (mul_g _ _ _ _ _ _ _ X Y SX SY (by omega) (by omega)).mono ?_
              rintro e w21 ⟨p21, q21, r21, rfl, G21, l21, hb21⟩
              replace HB := HB.trans (hb21.mono HB.size)
              replace hx := hx.below hb21
              replace hy := hy.below hb21
              replace SX := SX.below hb21
              replace SY := SY.below hb21
              replace G6 := G6.below hb21
              replace G7 := G7.below hb21
              replace G8 := G8.below hb21
              replace G9 := G9.below hb21
              replace G10 := G10.below hb21
              replace G11 := G11.below hb21
              go_wp2_with fail
              refine (mul_g _ _ _ _ _ _ _ xs ys hx hy (by omega) (by omega)).mono ?_
              rintro e w22 ⟨p22, q22, r22, rfl, G22, l22, hb22⟩
              replace HB := HB.trans (hb22.mono HB.size)
              replace hx := hx.below hb22
              replace hy := hy.below hb22
              replace SX := SX.below hb22
              replace SY := SY.below hb22
              replace G6 := G6.below hb22
              replace G7 := G7.below hb22
              replace G8 := G8.below hb22
              replace G9 := G9.below hb22
              replace G10 := G10.below hb22
              replace G11 := G11.below hb22
              replace G21 := G21.below hb22
              go_wp2_with fail
              refine (same_g _ _ _ _ _ r21 r22 _ _ G21 G22 (by rw [VX.out, VY.out])).mono ?_
              rintro e w23 ⟨rfl, hb23⟩
              replace HB := HB.trans (hb23.mono HB.size)
              replace hx := hx.below hb23
              replace hy := hy.below hb23
              replace SX := SX.below hb23
              replace SY := SY.below hb23
              replace G6 := G6.below hb23
              replace G7 := G7.below hb23
              replace G8 := G8.below hb23
              replace G9 := G9.below hb23
              replace G10 := G10.below hb23
              replace G11 := G11.below hb23
              go_wp2_with fail
              refine (same_g _ _ _ _ _ r8 r6 _ _ G8 G6 (by rw [VX.out, VY.out])).mono ?_
              rintro e w24 ⟨rfl, hb24⟩
              replace HB := HB.trans (hb24.mono HB.size)
              replace hx := hx.below hb24
              replace hy := hy.below hb24
              replace SX := SX.below hb24
              replace SY := SY.below hb24
              replace G6 := G6.below hb24
              replace G7 := G7.below hb24
              replace G8 := G8.below hb24
              replace G9 := G9.below hb24
              replace G10 := G10.below hb24
              replace G11 := G11.below hb24
              go_wp2_with fail
              refine (same_g _ _ _ _ _ r7 r9 _ _ G7 G9 (by rw [VX.out, VY.out])).mono ?_
              rintro e w25 ⟨rfl, hb25⟩
              replace HB := HB.trans (hb25.mono HB.size)
              replace hx := hx.below hb25
              replace hy := hy.below hb25
              replace SX := SX.below hb25
              replace SY := SY.below hb25
              replace G6 := G6.below hb25
              replace G7 := G7.below hb25
              replace G8 := G8.below hb25
              replace G9 := G9.below hb25
              replace G10 := G10.below hb25
              replace G11 := G11.below hb25
              go_wp2_with fail
              refine (same_g _ _ _ _ _ r11 r10 _ _ G11 G10 (by rw [VX.out, VY.out])).mono ?_
              rintro e w26 ⟨rfl, hb26⟩
              replace HB := HB.trans (hb26.mono HB.size)
              replace hx := hx.below hb26
              replace hy := hy.below hb26
              replace SX := SX.below hb26
              replace SY := SY.below hb26
              replace G6 := G6.below hb26
              replace G7 := G7.below hb26
              replace G8 := G8.below hb26
              replace G9 := G9.below hb26
              replace G10 := G10.below hb26
              replace G11 := G11.below hb26
              go_wp2_with fail
              refine (tgcd_g _ _ _ _ _ _ _ X Y SX SY (by omega) (by omega)).mono ?_
              rintro e w27 ⟨p27, q27, r27, rfl, G27, l27, hb27⟩
              replace HB := HB.trans (hb27.mono HB.size)
              replace hx := hx.below hb27
              replace hy := hy.below hb27
              replace SX := SX.below hb27
              replace SY := SY.below hb27
              go_wp2_with fail
              refine (tgcd_g _ _ _ _ _ _ _ xs ys hx hy (by omega) (by omega)).mono ?_
              rintro e w28 ⟨p28, q28, r28, rfl, G28, l28, hb28⟩
              replace HB := HB.trans (hb28.mono HB.size)
              replace hx := hx.below hb28
              replace hy := hy.below hb28
              replace SX := SX.below hb28
              replace SY := SY.below hb28
              replace G27 := G27.below hb28
              go_wp2_with fail
              refine (same_g _ _ _ _ _ r27 r28 _ _ G27 G28 (by rw [VX.out, VY.out])).mono ?_
              rintro e w29 ⟨rfl, hb29⟩
              replace HB := HB.trans (hb29.mono HB.size)
              replace hx := hx.below hb29
              replace hy := hy.below hb29
              replace SX := SX.below hb29
              replace SY := SY.below hb29
              go_wp2_with fail
              refine (bits_any _ _ _ _ X SX (by omega)).mono ?_
              rintro e w30 ⟨lb, rfl, t1, rfl⟩
              go_wp2_with fail
              refine (bits_any _ _ _ _ xs hx (by omega)).mono ?_
              rintro e w30 ⟨lb2, rfl, t2, rfl⟩
              rw [VX.out] at t1
              have hlb := isBits_one t1 t2
              subst hlb
              clear t1 t2
              go_wp2_with fail
              refine (text_any _ _ _ _ X SX (by omega)).mono ?_
              rintro e w31 ⟨ds, rfl, hd, hb31⟩
              replace HB := HB.trans (hb31.mono HB.size)
              replace hx := hx.below hb31
              rw [VX.out] at hd
              go_wp2_with fail
              refine (text_any _ _ _ _ xs hx (by omega)).mono ?_
              rintro e w32 ⟨es, rfl, he, hb32⟩
              replace HB := HB.trans (hb32.mono HB.size)
              have hde := isDec_one hd he
              subst hde
              clear hd he
              go_wp2
              go_ret
              exact ⟨rfl, HB⟩
            · have HL : Hid (val xs < val ys) := by show _ < _; omega
              clear hl
              go_wp2_with fail
              refine (divmod_g _ _ _ _ _ _ _ xs ys hx hy (by omega) HZ.out).mono ?_
              rintro e w6 ⟨p6, q6, r6, p7, q7, r7, rfl, G6, G7, l6, l7, hb6⟩
              replace HB := HB.trans (hb6.mono HB.size)
              replace hx := hx.below hb6
              replace hy := hy.below hb6
              replace SX := SX.below hb6
              replace SY := SY.below hb6
              go_wp2_with fail
              refine (divmod_g _ _ _ _ _ _ _ X Y SX SY (by omega) (by rw [VY.out]; exact HZ.out)).mono ?_
              rintro e w8 ⟨p8, q8, r8, p9, q9, r9, rfl, G8, G9, l8, l9, hb8⟩
              replace HB := HB.trans (hb8.mono HB.size)
              replace hx := hx.below hb8
              replace hy := hy.below hb8
              replace SX := SX.below hb8
              replace SY := SY.below hb8
              replace G6 := G6.below hb8
              replace G7 := G7.below hb8
              go_wp2_with fail
              refine (sub_no _ _ _ _ _ _ _ xs ys hx hy HL.out).mono ?_
              rintro e w10 ⟨rfl, hb10⟩
              replace HB := HB.trans (hb10.mono HB.size)
              replace hx := hx.below hb10
              replace hy := hy.below hb10
              replace SX := SX.below hb10
              replace SY := SY.below hb10
              replace G6 := G6.below hb10
              replace G7 := G7.below hb10
              replace G8 := G8.below hb10
              replace G9 := G9.below hb10
              go_wp2_with fail
              refine (sub_no _ _ _ _ _ _ _ X Y SX SY (by rw [VX.out, VY.out]; exact HL.out)).mono ?_
              rintro e w11 ⟨rfl, hb11⟩
              replace HB := HB.trans (hb11.mono HB.size)
              replace hx := hx.below hb11
              replace hy := hy.below hb11
              replace SX := SX.below hb11
              replace SY := SY.below hb11
              replace G6 := G6.below hb11
              replace G7 := G7.below hb11
              replace G8 := G8.below hb11
              replace G9 := G9.below hb11
              go_wp2_with fail
              refine (cmp_any _ _ _ _ _ _ _ X xs SX hx).mono ?_
              rintro e w12 ⟨rfl, hb12⟩
              replace HB := HB.trans (hb12.mono HB.size)
              replace hx := hx.below hb12
              replace hy := hy.below hb12
              replace SX := SX.below hb12
              replace SY := SY.below hb12
              replace G6 := G6.below hb12
              replace G7 := G7.below hb12
              replace G8 := G8.below hb12
              replace G9 := G9.below hb12
              rw [K1.out]
              go_wp2_with fail
              refine (cmp_any _ _ _ _ _ _ _ X Y SX SY).mono ?_
              rintro e w13 ⟨rfl, hb13⟩
              replace HB := HB.trans (hb13.mono HB.size)
              replace hx := hx.below hb13
              replace hy := hy.below hb13
              replace SX := SX.below hb13
              replace SY := SY.below hb13
              replace G6 := G6.below hb13
              replace G7 := G7.below hb13
              replace G8 := G8.below hb13
              replace G9 := G9.below hb13
              rw [K2.out]
              go_wp2_with fail
              refine (cmp_any _ _ _ _ _ _ _ xs ys hx hy).mono ?_
              rintro e w14 ⟨rfl, hb14⟩
              replace HB := HB.trans (hb14.mono HB.size)
              replace hx := hx.below hb14
              replace hy := hy.below hb14
              replace SX := SX.below hb14
              replace SY := SY.below hb14
              replace G6 := G6.below hb14
              replace G7 := G7.below hb14
              replace G8 := G8.below hb14
              replace G9 := G9.below hb14
              rw [K3.out]
              go_wp2_with fail
              refine (trim_g _ _ _ _ X SX (by omega)).mono ?_
              rintro e w15 ⟨p15, q15, r15, rfl, G15, l15, hb15⟩
              replace HB := HB.trans (hb15.mono HB.size)
              replace hx := hx.below hb15
              replace hy := hy.below hb15
              replace SX := SX.below hb15
              replace SY := SY.below hb15
              replace G6 := G6.below hb15
              replace G7 := G7.below hb15
              replace G8 := G8.below hb15
              replace G9 := G9.below hb15
              go_wp2_with fail
              refine (trim_g _ _ _ _ xs hx (by omega)).mono ?_
              rintro e w16 ⟨p16, q16, r16, rfl, G16, l16, hb16⟩
              replace HB := HB.trans (hb16.mono HB.size)
              replace hx := hx.below hb16
              replace hy := hy.below hb16
              replace SX := SX.below hb16
              replace SY := SY.below hb16
              replace G6 := G6.below hb16
              replace G7 := G7.below hb16
              replace G8 := G8.below hb16
              replace G9 := G9.below hb16
              replace G15 := G15.below hb16
              go_wp2_with fail
              refine (same_g _ _ _ _ _ r15 r16 _ _ G15 G16 VX.out).mono ?_
              rintro e w17 ⟨rfl, hb17⟩
              replace HB := HB.trans (hb17.mono HB.size)
              replace hx := hx.below hb17
              replace hy := hy.below hb17
              replace SX := SX.below hb17
              replace SY := SY.below hb17
              replace G6 := G6.below hb17
              replace G7 := G7.below hb17
              replace G8 := G8.below hb17
              replace G9 := G9.below hb17
              go_wp2_with fail
              refine (add_g _ _ _ _ _ _ _ X Y SX SY (by omega) (by omega)).mono ?_
              rintro e w18 ⟨p18, q18, r18, rfl, G18, l18, hb18⟩
              replace HB := HB.trans (hb18.mono HB.size)
              replace hx := hx.below hb18
              replace hy := hy.below hb18
              replace SX := SX.below hb18
              replace SY := SY.below hb18
              replace G6 := G6.below hb18
              replace G7 := G7.below hb18
              replace G8 := G8.below hb18
              replace G9 := G9.below hb18
              go_wp2_with fail
              refine (add_g _ _ _ _ _ _ _ xs ys hx hy (by omega) (by omega)).mono ?_
              rintro e w19 ⟨p19, q19, r19, rfl, G19, l19, hb19⟩
              replace HB := HB.trans (hb19.mono HB.size)
              replace hx := hx.below hb19
              replace hy := hy.below hb19
              replace SX := SX.below hb19
              replace SY := SY.below hb19
              replace G6 := G6.below hb19
              replace G7 := G7.below hb19
              replace G8 := G8.below hb19
              replace G9 := G9.below hb19
              replace G18 := G18.below hb19
              go_wp2_with fail
              refine (same_g _ _ _ _ _ r18 r19 _ _ G18 G19 (by rw [VX.out, VY.out])).mono ?_
              rintro e w20 ⟨rfl, hb20⟩
              replace HB := HB.trans (hb20.mono HB.size)
              replace hx := hx.below hb20
              replace hy := hy.below hb20
              replace SX := SX.below hb20
              replace SY := SY.below hb20
              replace G6 := G6.below hb20
              replace G7 := G7.below hb20
              replace G8 := G8.below hb20
              replace G9 := G9.below hb20
              go_wp2_with fail
              refine (mul_g _ _ _ _ _ _ _ X Y SX SY (by omega) (by omega)).mono ?_
              rintro e w21 ⟨p21, q21, r21, rfl, G21, l21, hb21⟩
              replace HB := HB.trans (hb21.mono HB.size)
              replace hx := hx.below hb21
              replace hy := hy.below hb21
              replace SX := SX.below hb21
              replace SY := SY.below hb21
              replace G6 := G6.below hb21
              replace G7 := G7.below hb21
              replace G8 := G8.below hb21
              replace G9 := G9.below hb21
              go_wp2_with fail
              refine (mul_g _ _ _ _ _ _ _ xs ys hx hy (by omega) (by omega)).mono ?_
              rintro e w22 ⟨p22, q22, r22, rfl, G22, l22, hb22⟩
              replace HB := HB.trans (hb22.mono HB.size)
              replace hx := hx.below hb22
              replace hy := hy.below hb22
              replace SX := SX.below hb22
              replace SY := SY.below hb22
              replace G6 := G6.below hb22
              replace G7 := G7.below hb22
              replace G8 := G8.below hb22
              replace G9 := G9.below hb22
              replace G21 := G21.below hb22
              go_wp2_with fail
              refine (same_g _ _ _ _ _ r21 r22 _ _ G21 G22 (by rw [VX.out, VY.out])).mono ?_
              rintro e w23 ⟨rfl, hb23⟩
              replace HB := HB.trans (hb23.mono HB.size)
              replace hx := hx.below hb23
              replace hy := hy.below hb23
              replace SX := SX.below hb23
              replace SY := SY.below hb23
              replace G6 := G6.below hb23
              replace G7 := G7.below hb23
              replace G8 := G8.below hb23
              replace G9 := G9.below hb23
              go_wp2_with fail
              refine (same_g _ _ _ _ _ r8 r6 _ _ G8 G6 (by rw [VX.out, VY.out])).mono ?_
              rintro e w24 ⟨rfl, hb24⟩
              replace HB := HB.trans (hb24.mono HB.size)
              replace hx := hx.below hb24
              replace hy := hy.below hb24
              replace SX := SX.below hb24
              replace SY := SY.below hb24
              replace G6 := G6.below hb24
              replace G7 := G7.below hb24
              replace G8 := G8.below hb24
              replace G9 := G9.below hb24
              go_wp2_with fail
              refine (same_g _ _ _ _ _ r7 r9 _ _ G7 G9 (by rw [VX.out, VY.out])).mono ?_
              rintro e w25 ⟨rfl, hb25⟩
              replace HB := HB.trans (hb25.mono HB.size)
              replace hx := hx.below hb25
              replace hy := hy.below hb25
              replace SX := SX.below hb25
              replace SY := SY.below hb25
              replace G6 := G6.below hb25
              replace G7 := G7.below hb25
              replace G8 := G8.below hb25
              replace G9 := G9.below hb25
              go_wp2_with fail
              refine (same_g _ _ _ _ _ [] [] _ _ (got_nil _) (got_nil _) rfl).mono ?_
              rintro e w26 ⟨rfl, hb26⟩
              replace HB := HB.trans (hb26.mono HB.size)
              replace hx := hx.below hb26
              replace hy := hy.below hb26
              replace SX := SX.below hb26
              replace SY := SY.below hb26
              replace G6 := G6.below hb26
              replace G7 := G7.below hb26
              replace G8 := G8.below hb26
              replace G9 := G9.below hb26
              go_wp2_with fail
              refine (tgcd_g _ _ _ _ _ _ _ X Y SX SY (by omega) (by omega)).mono ?_
              rintro e w27 ⟨p27, q27, r27, rfl, G27, l27, hb27⟩
              replace HB := HB.trans (hb27.mono HB.size)
              replace hx := hx.below hb27
              replace hy := hy.below hb27
              replace SX := SX.below hb27
              replace SY := SY.below hb27
              go_wp2_with fail
              refine (tgcd_g _ _ _ _ _ _ _ xs ys hx hy (by omega) (by omega)).mono ?_
              rintro e w28 ⟨p28, q28, r28, rfl, G28, l28, hb28⟩
              replace HB := HB.trans (hb28.mono HB.size)
              replace hx := hx.below hb28
              replace hy := hy.below hb28
              replace SX := SX.below hb28
              replace SY := SY.below hb28
              replace G27 := G27.below hb28
              go_wp2_with fail
              refine (same_g _ _ _ _ _ r27 r28 _ _ G27 G28 (by rw [VX.out, VY.out])).mono ?_
              rintro e w29 ⟨rfl, hb29⟩
              replace HB := HB.trans (hb29.mono HB.size)
              replace hx := hx.below hb29
              replace hy := hy.below hb29
              replace SX := SX.below hb29
              replace SY := SY.below hb29
              go_wp2_with fail
              refine (bits_any _ _ _ _ X SX (by omega)).mono ?_
              rintro e w30 ⟨lb, rfl, t1, rfl⟩
              go_wp2_with fail
              refine (bits_any _ _ _ _ xs hx (by omega)).mono ?_
              rintro e w30 ⟨lb2, rfl, t2, rfl⟩
              rw [VX.out] at t1
              have hlb := isBits_one t1 t2
              subst hlb
              clear t1 t2
              go_wp2_with fail
              refine (text_any _ _ _ _ X SX (by omega)).mono ?_
              rintro e w31 ⟨ds, rfl, hd, hb31⟩
              replace HB := HB.trans (hb31.mono HB.size)
              replace hx := hx.below hb31
              rw [VX.out] at hd
              go_wp2_with fail
              refine (text_any _ _ _ _ xs hx (by omega)).mono ?_
              rintro e w32 ⟨es, rfl, he, hb32⟩
              replace HB := HB.trans (hb32.mono HB.size)
              have hde := isDec_one hd he
              subst hde
              clear hd he
              go_wp2
              go_ret
              exact ⟨rfl, HB⟩

theorem tops_law (w : World) (a0 : Option Addr) (n0 c0 : Nat) (xs : List Int) (a1 : Option Addr) (n1 c1 : Nat) (ys : List Int) (k : Int)
    (hx : Sl w (.slice a0 n0 c0) xs) (b0 : n0 ≤ 35184372088832) (hy : Sl w (.slice a1 n1 c1) ys) (b1 : n1 ≤ 35184372088832) (_hk : (Lit.int .i64 k).wf = true) :
    Calls Try.prog 5 #[.slice a0 n0 c0, .slice a1 n1 c1, .int .i64 k] w fun e w' => e = .returned (.bool true) ∧ Below w.heap.size w w' := by
  by_cases h : 1500 < (n0 : Int) + n1
  · exact tops_long w a0 a1 n0 n1 c0 c1 k h b0 b1
  · exact tops_short w a0 a1 n0 n1 c0 c1 xs ys k hx hy h

end Lm
end Go.Proofs.Ythbomfboohjcfac
