/-
  The contracts of Lender's Lend and Back.
-/
import Derived.Test.YtjhhjefobbhdlaaWrap
import Derived.Laws.CopyOwn
namespace Go.Proofs.Ytjhhjefobbhdlaa
namespace Lm
open Go.RowKit

/-- w' is w, but for block L and for new blocks. -/
structure Touch (w w' : World) (L : Nat) : Prop where
  os : w'.os = w.os
  tape : w'.tape = w.tape
  output : w'.output = w.output
  size : w.heap.size ≤ w'.heap.size
  other : ∀ k, k < w.heap.size → k ≠ L → w'.heap[k]? = w.heap[k]?

theorem Touch.below {w w' : World} {L B : Nat} (h : Touch w w' L) (hB : B ≤ L) (hs : B ≤ w.heap.size) : Below B w w' := ⟨h.os, h.tape, h.output, h.size, fun k hk => h.other k (by omega) (by omega)⟩
theorem Touch.of_below {w w' : World} {L : Nat} (h : Below w.heap.size w w') : Touch w w' L := ⟨h.os, h.tape, h.output, h.size, fun k hk _ => h.block k hk⟩
theorem Wr.touch {w w' : World} {g : Nat} {cur : Array Value} {e : TypeId} (h : Wr w w' g cur e) : Touch w w' g := ⟨h.os, h.tape, h.output, by rw [h.size]; exact Nat.le_refl _, fun k _ hk => h.other k hk⟩
theorem Touch.trans {w w' w'' : World} {L : Nat} (h : Touch w w' L) (h' : Touch w' w'' L) : Touch w w'' L :=
  ⟨h'.os.trans h.os, h'.tape.trans h.tape, h'.output.trans h.output, Nat.le_trans h.size h'.size, fun k hk hn => (h'.other k (Nat.lt_of_lt_of_le hk h.size) hn).trans (h.other k hk hn)⟩

theorem Ow.touch {B L : Nat} {w w' : World} {v : Value} {zs : List Int} (h : Ow B w v zs) (t : Touch w w' L) (hL : L < B) : Ow B w' v zs := by
  obtain ⟨ao, cap, rfl, h1, h2, h3, h4⟩ := h
  refine ⟨ao, cap, rfl, h1, h2, h3, ?_⟩
  rcases h4 with h4 | ⟨g, off, cur, rfl, hB, hh, hs, ha⟩
  · exact .inl h4
  · exact .inr ⟨g, off, cur, rfl, hB, by rw [t.other g (lt_of_heap hh) (by omega)]; exact hh, hs, ha⟩

theorem Is.touch {B L : Nat} {w w' : World} {v : Value} {x : Int} (h : Is B w v x) (t : Touch w w' L) (hL : L < B) : Is B w' v x := by
  obtain ⟨rs, h1, h2, h3⟩ := h
  exact ⟨rs, h1.touch t hL, h2, h3⟩

/-- The marks with which a lender fills its room. -/
def marks (n : Nat) : List Int := (List.range n).map fun i : Nat => 2779096485 + (i : Int)

/-- What a lender has lent: the list, five marks ahead of it and behind it. -/
def lent (xs : List Int) : List Int := (marks (xs.length + 10)).take 5 ++ xs ++ (marks (xs.length + 10)).drop (5 + xs.length)

theorem marks_length (n : Nat) : (marks n).length = n := by simp [marks]
theorem marks_getD {n i : Nat} (h : i < n) : (marks n).getD i 0 = 2779096485 + (i : Int) := by
  rw [List.getD_eq_getElem?_getD]
  simp [marks, h]

theorem lent_length (xs : List Int) : (lent xs).length = xs.length + 10 := by
  simp only [lent, List.length_append, List.length_take, List.length_drop, marks_length]
  omega

theorem lent_low {xs : List Int} {i : Nat} (h : i < 5) : (lent xs).getD i 0 = 2779096485 + (i : Int) := by
  rw [← marks_getD (n := xs.length + 10) (i := i) (by omega), List.getD_eq_getElem?_getD, lent, List.append_assoc, List.getElem?_append_left (by rw [List.length_take, marks_length]; omega), List.getElem?_take, if_pos h, List.getD_eq_getElem?_getD]

theorem lent_mid {xs : List Int} {i : Nat} (h : 5 ≤ i) (h' : i < 5 + xs.length) : (lent xs).getD i 0 = xs.getD (i - 5) 0 := by
  have e : ((marks (xs.length + 10)).take 5).length = 5 := by rw [List.length_take, marks_length]; omega
  rw [List.getD_eq_getElem?_getD, lent, List.append_assoc, List.getElem?_append_right (by omega), e, List.getElem?_append_left (by omega), List.getD_eq_getElem?_getD]

theorem lent_high {xs : List Int} {i : Nat} (h : 5 + xs.length ≤ i) (h' : i < xs.length + 10) : (lent xs).getD i 0 = 2779096485 + (i : Int) := by
  have e : ((marks (xs.length + 10)).take 5 ++ xs).length = 5 + xs.length := by rw [List.length_append, List.length_take, marks_length]; omega
  rw [← marks_getD (n := xs.length + 10) (i := i) (by omega), List.getD_eq_getElem?_getD, lent, List.getElem?_append_right (by omega), e, List.getElem?_drop, show 5 + xs.length + (i - (5 + xs.length)) = i by omega, List.getD_eq_getElem?_getD]

/-- A lender at block L that has lent xs out of block g. -/
def LendS (w : World) (L g : Nat) (xs : List Int) : Prop :=
  w.heap[L]? = some (.cells #[.slice (some ⟨g, 0, none⟩) (xs.length + 10) (xs.length + 10), .int .i64 xs.length] 28 (0, 0)) ∧
  ∃ cur, w.heap[g]? = some (.cells cur 51 (0, 0)) ∧ cur.size = xs.length + 10 ∧ At cur .u32 0 (lent xs) ∧ Limb xs

theorem LendS.sl {w : World} {L g : Nat} {xs : List Int} (h : LendS w L g xs) (hm : xs.length ≤ 1000000) : Sl w (.slice (some ⟨g, 5, none⟩) xs.length (xs.length + 5)) xs := by
  obtain ⟨_, cur, hh, hs, ha, hl⟩ := h
  refine ⟨_, xs.length + 5, rfl, by omega, by unfold maxLen; omega, hl, .inr ⟨g, 5, rfl, fun i hi => ?_⟩⟩
  rw [cell_of_row w g (5 + i) cur _ (0, 0) hh]
  have e := ha (5 + i) (by rw [lent_length]; omega)
  rw [Nat.zero_add] at e
  rw [e, lent_mid (by omega) (by omega), Nat.add_sub_cancel_left]

theorem LendS.touch {w w' : World} {L g M : Nat} {xs : List Int} (h : LendS w L g xs) (t : Touch w w' M) (h1 : L ≠ M) (h2 : g ≠ M) : LendS w' L g xs := by
  obtain ⟨h3, cur, hh, r⟩ := h
  exact ⟨by rw [t.other L (lt_of_heap h3) h1]; exact h3, cur, by rw [t.other g (lt_of_heap hh) h2]; exact hh, r⟩

theorem LendS.below {w w' : World} {L g : Nat} {xs : List Int} (h : LendS w L g xs) (hb : Below w.heap.size w w') : LendS w' L g xs := by
  obtain ⟨h3, cur, hh, r⟩ := h
  exact ⟨by rw [hb.block L (lt_of_heap h3)]; exact h3, cur, by rw [hb.block g (lt_of_heap hh)]; exact hh, r⟩

theorem marks_fill {qs : List Int} {n k : Nat} (hq : qs = marks k) (hk : k < n) : (qs ++ (List.replicate n (0 : Int)).drop k).set k (2779096485 + (k : Int)) = marks (k + 1) ++ (List.replicate n (0 : Int)).drop (k + 1) := by
  rw [set_snoc qs _ k _ (by rw [hq, marks_length]) (by simpa using hk), hq]
  congr 1
  simp [marks, List.range_succ]

theorem size32 : (Try.prog.info? 51).map (·.size) = some 1 := by kernel_rfl

theorem lrow_cells {w : World} {b off : Nat} {zs : List Int} (hc : ∀ i, i < zs.length → w.cell? ⟨b, off + i, none⟩ = some (.int .u32 (zs.getD i 0))) : ∀ j u, (zs.map (Value.int .u32))[j]? = some u → w.cell? ((⟨b, off, none⟩ : Addr).add j) = some u := by
  intro j u hu
  rw [List.getElem?_map] at hu
  have hj : j < zs.length := by
    apply Classical.byContradiction
    intro hn
    rw [List.getElem?_eq_none (by omega)] at hu
    cases hu
  rw [List.getElem?_eq_getElem hj] at hu
  have hcj := hc j hj
  rw [List.getD_eq_getElem?_getD, List.getElem?_eq_getElem hj] at hcj
  rw [show ((⟨b, off, none⟩ : Addr).add j) = ⟨b, off + j, none⟩ from by simp [Addr.add], hcj]
  exact hu

theorem lrow_one (zs : List Int) : ∀ u ∈ zs.map (Value.int .u32), u.oneCell' = true := by
  intro u hu
  obtain ⟨z, _, rfl⟩ := List.mem_map.1 hu
  rfl

/-- A slice that does not lie in block L reads as it did. -/
theorem Sl.touch {w w' : World} {L n c : Nat} {a : Option Addr} {zs : List Int} (h : Sl w (.slice a n c) zs) (t : Touch w w' L) (hne : 0 < zs.length → ∀ b off, a = some ⟨b, off, none⟩ → b ≠ L) : Sl w' (.slice a n c) zs := by
  obtain ⟨ao', cap', hv, h1, h2, h3, h4⟩ := h
  obtain ⟨rfl, rfl, rfl⟩ := (Value.slice.injEq .. ▸ hv)
  refine ⟨_, _, rfl, h1, h2, h3, ?_⟩
  rcases h4 with h4 | ⟨b, off, rfl, hc⟩
  · exact .inl h4
  · refine .inr ⟨b, off, rfl, fun i hi => ?_⟩
    have h5 := hc i hi
    rw [World.cell?_of_block (w := w) (t.other b (lt_of_cell h5) (hne (by omega) b off rfl))]
    exact h5

theorem at_splice {cur : Array Value} {xs : List Int} (hs : cur.size = xs.length + 10) (ha : At cur .u32 0 (marks (xs.length + 10))) : At (splice cur.toList 5 (xs.map (Value.int .u32))).toArray .u32 0 (lent xs) := by
  intro i hi
  rw [lent_length] at hi
  have hl5 : (cur.toList.take 5).length = 5 := by rw [List.length_take, Array.length_toList, hs]; omega
  rw [Nat.zero_add, List.getElem?_toArray, splice]
  by_cases h1 : i < 5
  · rw [List.getElem?_append_left (by omega), List.getElem?_take, if_pos h1, Array.getElem?_toList]
    have e := ha i (by rw [marks_length]; omega)
    rw [Nat.zero_add] at e
    rw [e, marks_getD (by omega), lent_low h1]
  · rw [List.getElem?_append_right (by omega), hl5]
    by_cases h2 : i < 5 + xs.length
    · rw [List.getElem?_append_left (by rw [List.length_map]; omega), List.getElem?_map, lent_mid (by omega) h2, List.getD_eq_getElem?_getD, List.getElem?_eq_getElem (by omega)]
      rfl
    · rw [List.getElem?_append_right (by rw [List.length_map]; omega), List.length_map, List.getElem?_drop, Array.getElem?_toList, show 5 + xs.length + (i - 5 - xs.length) = i by omega]
      have e := ha i (by rw [marks_length]; omega)
      rw [Nat.zero_add] at e
      rw [e, marks_getD (by omega), lent_high (by omega) (by omega)]

theorem ret_slice {a : Option Addr} {n m c : Nat} (h : n = m) : Ending.returned (.slice a n c) = .returned (.slice a m c) := by rw [h]

set_option maxRecDepth 20000 in
set_option maxHeartbeats 1000000 in
theorem lend_any (w : World) (L : Nat) (u0 u1 : Value) (a1 : Option Addr) (n c1 : Nat) (xs : List Int) (hL : w.heap[L]? = some (.cells #[u0, u1] 28 (0, 0))) (hx : Sl w (.slice a1 n c1) xs) (hm : xs.length ≤ 100000)
    (hne : 0 < xs.length → ∀ b off, a1 = some ⟨b, off, none⟩ → b ≠ L) :
    Calls Try.prog 9 #[.pointer (some ⟨L, 0, none⟩), .slice a1 n c1] w fun e w' => e = .returned (.slice (some ⟨w.heap.size, 5, none⟩) xs.length (xs.length + 5)) ∧ LendS w' L w.heap.size xs ∧ Touch w w' L := by
  obtain ⟨rfl, h1, h2, h3⟩ := hx.parts
  obtain ⟨i0, hi, hz0, hz1, hz2⟩ := info_parts info32
  have lL := lt_of_heap hL
  have cL := (cell_of_row w L 0 _ _ (0, 0) hL).trans (show (#[u0, u1] : Array Value)[0]? = some u0 from rfl)
  have dL := (cell_of_row w L 1 _ _ (0, 0) hL).trans (show (#[u0, u1] : Array Value)[1]? = some u1 from rfl)
  have fL := frozen_of_row w L 0 _ _ hL
  have H3 := hide h3
  have HL := hide hL
  clear h3 hL
  go_enter Try.func9, Try.ntmps9
  go_wp2_with (refine wpList_make_full _ rfl (.tmp 9) (.tmp 9) 22 rfl w.heap.size 51 i0 (.int .u32 0) 1 Try.underlying22 hi hz0 hz1 .i64 .i64 _ _ (xs.length + 10) rfl rfl (by omega) (by omega) (by rw [hz2]; omega) (by unfold maxLen; omega) (Nat.le_refl _) ?hK)
  case hK =>
    intro w1 hown hgrow
    obtain ⟨_, cur, hh, hcs, hat⟩ := block_of_made hown
    have hb1 : Below w.heap.size w w1 := (Below.refl w.heap.size w).grown hgrow (Nat.le_refl _) (by simp)
    have cL1 := (hb1.cell (p := ⟨L, 0, none⟩) lL).trans cL
    have dL1 := (hb1.cell (p := ⟨L, 1, none⟩) lL).trans dL
    have fL1 := (hb1.frozen (p := ⟨L, 0, none⟩) lL).trans fL
    have hL1 : w1.heap[L]? = some (.cells #[u0, u1] 28 (0, 0)) := by rw [hb1.block L lL]; exact HL.out
    have HL1 := hide hL1
    have HH := hide hh
    have HS := hide hcs
    have HA := hide hat
    clear hown hgrow hh hcs hat hL1
    go_wp2
    have hLg : L ≠ w.heap.size := by omega
    have a1' := heap_setCell_same w1 L 0 _ _ (.slice (some ⟨w.heap.size, 0, none⟩) (xs.length + 10) (xs.length + 10)) HL1.out
    have a2' : (w1.setCell ⟨L, 0, none⟩ (.slice (some ⟨w.heap.size, 0, none⟩) (xs.length + 10) (xs.length + 10))).heap[w.heap.size]? = some (.cells cur 51 (0, 0)) := by
      rw [heap_setCell_other w1 ⟨L, 0, none⟩ _ _ (by simpa using fun e => hLg e.symm)]; exact HH.out
    have t2 : Touch w (w1.setCell ⟨L, 0, none⟩ (.slice (some ⟨w.heap.size, 0, none⟩) (xs.length + 10) (xs.length + 10))) L :=
      ⟨hb1.os, hb1.tape, hb1.output, by simp [World.setCell]; exact hb1.size, fun k hk hn => (heap_setCell_other w1 ⟨L, 0, none⟩ k _ hn).trans (hb1.block k hk)⟩
    have A := hide (And.intro a1' (And.intro a2' t2))
    clear a1' a2' t2 cL1 dL1 fL1 cL dL fL
    generalize w1.setCell ⟨L, 0, none⟩ (.slice (some ⟨w.heap.size, 0, none⟩) (xs.length + 10) (xs.length + 10)) = w2 at A ⊢
    go_loopw [5] (fun i wr => ∃ (k : Nat) (cur' : Array Value), k ≤ xs.length + 10 ∧ i = .int .i64 k ∧ Wr w2 wr w.heap.size cur' 51 ∧ cur'.size = xs.length + 10 ∧ At cur' .u32 0 (marks k ++ (List.replicate (xs.length + 10) (0 : Int)).drop k)) (fun i _ => xs.length + 10 - (intOf i).toNat)
    case atStart => exact ⟨0, cur, Nat.zero_le _, rfl, Wr.refl A.out.2.1, HS.out, by simpa [marks] using HA.out⟩
    case round =>
      obtain ⟨k, cur', hk, rfl, hwr, hcs, hat⟩ := hrel
      have HW := hide hwr
      have HC := hide hcs
      have HT := hide hat
      have hLr : wr.heap[L]? = some (.cells #[.slice (some ⟨w.heap.size, 0, none⟩) (xs.length + 10) (xs.length + 10), u1] 28 (0, 0)) := by
        rw [hwr.other L hLg]; exact A.out.1
      have cLr := (cell_of_row wr L 0 _ _ (0, 0) hLr).trans (show (#[.slice (some ⟨w.heap.size, 0, none⟩) (xs.length + 10) (xs.length + 10), u1] : Array Value)[0]? = some _ from rfl)
      have HLr := hide hLr
      clear hwr hcs hat
      by_cases hlt : k < xs.length + 10
      · have hlen : (marks k ++ (List.replicate (xs.length + 10) (0 : Int)).drop k).length = xs.length + 10 := by rw [List.length_append, marks_length]; simp; omega
        have hcell := HT.out.cell HW.out.here k (by rw [hlen]; omega)
        rw [Nat.zero_add] at hcell
        generalize (marks k ++ (List.replicate (xs.length + 10) (0 : Int)).drop k).getD k 0 = old at hcell
        have hfree := HW.out.free k
        have HT' := hide (HT.out.set k (2779096485 + (k : Int)))
        have HW' := hide (HW.out.set k (.int .u32 (2779096485 + (k : Int))))
        clear hlen hLr
        go_wp2
        go_roundw
        case rel => exact ⟨k + 1, _, by omega, by go_num, HW'.out, by simpa using HC.out, by rw [← marks_fill rfl hlt]; simpa using HT'.out⟩
        case measure => simp [intOf]; omega
      · have hkn : k = xs.length + 10 := by omega
        subst hkn
        have dLr := (cell_of_row wr L 1 _ _ (0, 0) hLr).trans (show (#[.slice (some ⟨w.heap.size, 0, none⟩) (xs.length + 10) (xs.length + 10), u1] : Array Value)[1]? = some _ from rfl)
        have fLr := frozen_of_row wr L 1 _ _ hLr
        have hat2 := HT.out
        rw [List.drop_of_length_le (by simp), List.append_nil] at hat2
        have HT2 := hide hat2
        have b1 := heap_setCell_same wr L 1 _ _ (.int .i64 xs.length) hLr
        have b2 : (wr.setCell ⟨L, 1, none⟩ (.int .i64 xs.length)).heap[w.heap.size]? = some (.cells cur'.toList.toArray 51 (0, 0)) := by
          rw [heap_setCell_other wr ⟨L, 1, none⟩ _ _ (by simpa using fun e => hLg e.symm), Array.toArray_toList]; exact HW.out.here
        have b3 : Touch w (wr.setCell ⟨L, 1, none⟩ (.int .i64 xs.length)) L := by
          have t2 := A.out.2.2
          have hw := HW.out
          exact ⟨hw.os.trans t2.os, hw.tape.trans t2.tape, hw.output.trans t2.output, by simp [World.setCell]; rw [hw.size]; exact t2.size, fun j hj hn => (heap_setCell_other wr ⟨L, 1, none⟩ j _ hn).trans ((hw.other j (by omega)).trans (t2.other j hj hn))⟩
        have b4 := hx.touch b3 hne
        have hpos : 0 < (xs.map (Value.int .u32)).length → (some ⟨w.heap.size, 5, none⟩ : Option Addr) = some ⟨w.heap.size, 5, none⟩ ∧ ∃ ad, a1 = some ad ∧ ∀ j v, (xs.map (Value.int .u32))[j]? = some v → (wr.setCell ⟨L, 1, none⟩ (.int .i64 xs.length)).cell? (ad.add j) = some v := by
          intro h0
          rw [List.length_map] at h0
          obtain ⟨b, off, rfl, hc⟩ := b4.cells h0
          exact ⟨rfl, _, rfl, lrow_cells hc⟩
        have B := hide (And.intro b1 b3)
        clear hat2 hLr b1 b3 b4
        go_wp2_with (refine wpList_copy_splice rfl (.tmp 40) (.tmp 41) 22 22 rfl 51 Try.underlying22 size32 _ _ _ _ _ _ rfl rfl w.heap.size 5 cur'.toList 51 b2 (xs.map (Value.int .u32)) (by simp [Nat.min_def]) hpos ?hfit (lrow_one xs) w.heap.size _ (Below.refl _ _) (Nat.le_refl _) ?h)
        case hfit => have := HC.out; simp; omega
        case h =>
          intro w4 hg4 hb4
          have hfin : LendS w4 L w.heap.size xs := by
            refine ⟨?_, _, hg4.out, ?_, at_splice HC.out HT2.out, H3.out⟩
            · rw [hb4.block L (by omega)]
              exact B.out.1
            · rw [List.size_toArray, length_splice _ _ _ (by have := HC.out; simp; omega), Array.length_toList, HC.out]
          have hto : Touch w w4 L := by
            have t := B.out.2
            exact ⟨hb4.os.trans t.os, hb4.tape.trans t.tape, hb4.output.trans t.output, Nat.le_trans t.size hb4.size, fun j hj hn => (hb4.block j hj).trans (t.other j hj hn)⟩
          have cL4 := (cell_of_row w4 L 0 _ _ (0, 0) hfin.1).trans (show (#[.slice (some ⟨w.heap.size, 0, none⟩) (xs.length + 10) (xs.length + 10), .int .i64 xs.length] : Array Value)[0]? = some _ from rfl)
          clear hg4 hb4
          go_wp2
          go_ret
          exact ⟨ret_slice (by omega), hfin, hto⟩

end Lm
end Go.Proofs.Ytjhhjefobbhdlaa
