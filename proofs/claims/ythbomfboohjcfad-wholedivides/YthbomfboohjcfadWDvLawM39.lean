/-
  Whole numbers: the contract of Gcd. The contracts of Lender's Lend and Back. What a Book holds: the lists that it took, each filled with a mark of its own; what an append to its two rows does to it. The contract of Book's Own.
-/
import Derived.Test.YthbomfboohjcfadWDvLawM37
import Derived.Test.YthbomfboohjcfadWDvLawM38
import Derived.Test.YthbomfboohjcfadWrap
import Derived.Laws.CopyOwn
import Derived.Deep.AppendLies
import Derived.Deep.QuietTactic
import Derived.BigQuiet
namespace Go.Proofs.Ythbomfboohjcfad
namespace Lm
open Go.RowKit

theorem gcd_sg (nx ny : Bool) (X Y : Int) : Int.gcd (sg nx X) (sg ny Y) = Int.gcd X Y := by
  cases nx <;> cases ny <;> simp [sg]

theorem gcd_small {X Y : Int} (hX : 0 ≤ X) (hY : 0 ≤ Y) : ((Int.gcd X Y : Nat) : Int) ≤ X + Y := by
  by_cases h : X = 0
  · subst h
    rw [Int.gcd_zero_left]
    omega
  · have h9 : Int.gcd X Y ≤ X.natAbs := Int.gcd_le_natAbs_left _ h
    omega

theorem gcd_g (w : World) (a1 a2 : Option Addr) (n1 n2 c1 c2 : Nat) (xs ys : List Int) (hx : Sl w (.slice a1 n1 c1) xs) (hy : Sl w (.slice a2 n2 c2) ys) (hm1 : xs.length ≤ 400000) (hm2 : ys.length ≤ 400000) :
    Calls Try.prog 35 #[.slice a1 n1 c1, .slice a2 n2 c2] w fun e w' => ∃ ao cap rs, e = .returned (.slice ao rs.length cap) ∧ Got w' ao cap rs (Int.gcd (val xs) (val ys)) ∧ rs.length ≤ xs.length + ys.length + 1 ∧ Below w.heap.size w w' := by
  refine (gcd_any w a1 a2 n1 n2 c1 c2 xs ys hx hy hm1 hm2).mono ?_
  rintro e w' ⟨v, rfl, hi, hb⟩
  obtain ⟨ao, cap, rs, rfl, hg⟩ := hi.got
  refine ⟨ao, cap, rs, rfl, hg, canon_len hg.canon ?_, hb⟩
  rw [hg.val]
  have b1 := val_bounds hx.parts.2.2.2
  have b2 := val_bounds hy.parts.2.2.2
  have h1 := gcd_small b1.1 b2.1
  have m1 := pw_mono (m := xs.length) (n := xs.length + ys.length) (by omega)
  have m2 := pw_mono (m := ys.length) (n := xs.length + ys.length) (by omega)
  rw [pw]
  have := pw_pos (xs.length + ys.length)
  omega

set_option maxRecDepth 20000 in
set_option maxHeartbeats 1000000 in
theorem wgcd_g (w : World) (nx : Bool) (a1 : Option Addr) (n1 c1 : Nat) (xs : List Int) (hx : Sl w (.slice a1 n1 c1) xs) (ny : Bool) (a2 : Option Addr) (n2 c2 : Nat) (ys : List Int) (hy : Sl w (.slice a2 n2 c2) ys) (hm1 : xs.length ≤ 400000) (hm2 : ys.length ≤ 400000) :
    Calls Try.prog 12 #[.agg #[.bool nx, .slice a1 n1 c1], .agg #[.bool ny, .slice a2 n2 c2]] w fun e w' => ∃ ng' ao cap rs, e = .returned (.agg #[.bool ng', .slice ao rs.length cap]) ∧ Wh w' ng' ao cap rs (((Int.gcd (sg nx (val xs)) (sg ny (val ys)) : Nat) : Int)) ∧ rs.length ≤ xs.length + ys.length + 1 ∧ Below w.heap.size w w' := by
  obtain ⟨w0, e0, bx, by', br, hb0, hs0⟩ := boxed3 w nx (.slice a1 n1 c1) ny (.slice a2 n2 c2)
  have E0 := hide e0
  have hx0 := hx.below hb0
  have hy0 := hy.below hb0
  clear e0 hs0
  go_enter Try.func12, Try.ntmps12
  go_wp2_with fail
  rw [E0.out]
  obtain ⟨ca, cb, cc, cd⟩ := bx.facts
  obtain ⟨ea, eb, ec, ed⟩ := by'.facts
  obtain ⟨da, db, dc, dd⟩ := br.facts
  refine (gcd_g _ _ _ _ _ _ _ xs ys hx0 hy0 (by omega) (by omega)).mono ?_
  rintro e w1 ⟨p1, q1, r1, rfl, G1, l1, hb1⟩
  go_wp2_with fail
  refine (signed_g _ false _ _ r1 _ G1 (by omega)).mono ?_
  rintro e w2 ⟨ng2, rfl, G2, hb2⟩
  have br2 := (br.below hb1).below hb2
  obtain ⟨ka, kb, kc, kd⟩ := br2.facts
  have SGF : Hid (sg false ((Int.gcd (val xs) (val ys) : Nat) : Int) = ((Int.gcd (sg nx (val xs)) (sg ny (val ys)) : Nat) : Int)) := by show _ = _; rw [gcd_sg]; rfl
  have X := hide (br2.set ng2 (.slice p1 r1.length q1)).facts
  have Y := hide (br2.wh ng2 (.slice p1 r1.length q1) G2)
  have Z := hide (below_set2 (hb0.trans ((hb1.trans (hb2.mono hb1.size)).mono hb0.size)) (Nat.le_add_right _ 2) (.bool ng2) (.slice p1 r1.length q1))
  skip
  go_wp2
  refine bodyPost_ret (v := .agg #[.bool ng2, .slice p1 r1.length q1]) ?_ rfl ⟨ng2, p1, q1, r1, rfl, by rw [← SGF.out]; exact Y.out, by omega, Z.out⟩
  simp [results, Try.results12, go_sem, X.out.1, X.out.2.1]

theorem gcd_z (w : World) (nx : Bool) (a1 : Option Addr) (n1 c1 : Nat) (xs : List Int) (x : Int) (hx : Ag w nx a1 n1 c1 xs x) (ny : Bool) (a2 : Option Addr) (n2 c2 : Nat) (ys : List Int) (y : Int) (hy : Ag w ny a2 n2 c2 ys y) (hm1 : xs.length ≤ 400000) (hm2 : ys.length ≤ 400000) :
    Calls Try.prog 12 #[.agg #[.bool nx, .slice a1 n1 c1], .agg #[.bool ny, .slice a2 n2 c2]] w fun e w' => ∃ ng' ao cap rs, e = .returned (.agg #[.bool ng', .slice ao rs.length cap]) ∧ Wh w' ng' ao cap rs ((Int.gcd x y : Nat) : Int) ∧ rs.length ≤ xs.length + ys.length + 1 ∧ Below w.heap.size w w' := by
  have h := wgcd_g w nx a1 n1 c1 xs hx.sl ny a2 n2 c2 ys hy.sl hm1 hm2
  rw [hx.worth, hy.worth] at h
  exact h

end Lm
end Go.Proofs.Ythbomfboohjcfad

namespace Go.Proofs.Ythbomfboohjcfad
namespace Lm
open Go.RowKit

/-- w' is w, but for block L and for new blocks. -/
structure Touch (w w' : World) (L : Nat) : Prop where
  os : w'.os = w.os
  tape : w'.tape = w.tape
  output : w'.output = w.output
  size : w.heap.size ≤ w'.heap.size
  other : ∀ k, k < w.heap.size → k ≠ L → w'.heap[k]? = w.heap[k]?

theorem Touch.below {w w' : World} {L B : Nat} (h : Touch w w' L) (hB : B ≤ L) (hs : B ≤ w.heap.size) : Below B w w' := ⟨h.os, h.tape, h.output, h.size, fun k hk => h.other k (by omega) (by omega)⟩
theorem Touch.of_below {w w' : World} {L : Nat} (h : Below w.heap.size w w') : Touch w w' L := ⟨h.os, h.tape, h.output, h.size, fun k hk _ => h.block k hk⟩
theorem Wr.touch {w w' : World} {g : Nat} {cur : Array Value} {e : TypeId} (h : Wr w w' g cur e) : Touch w w' g := ⟨h.os, h.tape, h.output, by rw [h.size]; exact Nat.le_refl _, fun k _ hk => h.other k hk⟩
theorem Touch.trans {w w' w'' : World} {L : Nat} (h : Touch w w' L) (h' : Touch w' w'' L) : Touch w w'' L :=
  ⟨h'.os.trans h.os, h'.tape.trans h.tape, h'.output.trans h.output, Nat.le_trans h.size h'.size, fun k hk hn => (h'.other k (Nat.lt_of_lt_of_le hk h.size) hn).trans (h.other k hk hn)⟩

theorem Ow.touch {B L : Nat} {w w' : World} {v : Value} {zs : List Int} (h : Ow B w v zs) (t : Touch w w' L) (hL : L < B) : Ow B w' v zs := by
  obtain ⟨ao, cap, rfl, h1, h2, h3, h4⟩ := h
  refine ⟨ao, cap, rfl, h1, h2, h3, ?_⟩
  rcases h4 with h4 | ⟨g, off, cur, rfl, hB, hh, hs, ha⟩
  · exact .inl h4
  · exact .inr ⟨g, off, cur, rfl, hB, by rw [t.other g (lt_of_heap hh) (by omega)]; exact hh, hs, ha⟩

theorem Is.touch {B L : Nat} {w w' : World} {v : Value} {x : Int} (h : Is B w v x) (t : Touch w w' L) (hL : L < B) : Is B w' v x := by
  obtain ⟨rs, h1, h2, h3⟩ := h
  exact ⟨rs, h1.touch t hL, h2, h3⟩

/-- The marks with which a lender fills its room. -/
def marks (n : Nat) : List Int := (List.range n).map fun i : Nat => 2779096485 + (i : Int)

/-- What a lender has lent: the list, five marks ahead of it and behind it. -/
def lent (xs : List Int) : List Int := (marks (xs.length + 10)).take 5 ++ xs ++ (marks (xs.length + 10)).drop (5 + xs.length)

theorem marks_length (n : Nat) : (marks n).length = n := by simp [marks]
theorem marks_getD {n i : Nat} (h : i < n) : (marks n).getD i 0 = 2779096485 + (i : Int) := by
  rw [List.getD_eq_getElem?_getD]
  simp [marks, h]

theorem lent_length (xs : List Int) : (lent xs).length = xs.length + 10 := by
  simp only [lent, List.length_append, List.length_take, List.length_drop, marks_length]
  omega

theorem lent_low {xs : List Int} {i : Nat} (h : i < 5) : (lent xs).getD i 0 = 2779096485 + (i : Int) := by
  rw [← marks_getD (n := xs.length + 10) (i := i) (by omega), List.getD_eq_getElem?_getD, lent, List.append_assoc, List.getElem?_append_left (by rw [List.length_take, marks_length]; omega), List.getElem?_take, if_pos h, List.getD_eq_getElem?_getD]

theorem lent_mid {xs : List Int} {i : Nat} (h : 5 ≤ i) (h' : i < 5 + xs.length) : (lent xs).getD i 0 = xs.getD (i - 5) 0 := by
  have e : ((marks (xs.length + 10)).take 5).length = 5 := by rw [List.length_take, marks_length]; omega
  rw [List.getD_eq_getElem?_getD, lent, List.append_assoc, List.getElem?_append_right (by omega), e, List.getElem?_append_left (by omega), List.getD_eq_getElem?_getD]

theorem lent_high {xs : List Int} {i : Nat} (h : 5 + xs.length ≤ i) (h' : i < xs.length + 10) : (lent xs).getD i 0 = 2779096485 + (i : Int) := by
  have e : ((marks (xs.length + 10)).take 5 ++ xs).length = 5 + xs.length := by rw [List.length_append, List.length_take, marks_length]; omega
  rw [← marks_getD (n := xs.length + 10) (i := i) (by omega), List.getD_eq_getElem?_getD, lent, List.getElem?_append_right (by omega), e, List.getElem?_drop, show 5 + xs.length + (i - (5 + xs.length)) = i by omega, List.getD_eq_getElem?_getD]

/-- A lender at block L that has lent xs out of block g. -/
def LendS (w : World) (L g : Nat) (xs : List Int) : Prop :=
  w.heap[L]? = some (.cells #[.slice (some ⟨g, 0, none⟩) (xs.length + 10) (xs.length + 10), .int .i64 xs.length] 28 (0, 0)) ∧
  ∃ cur, w.heap[g]? = some (.cells cur 47 (0, 0)) ∧ cur.size = xs.length + 10 ∧ At cur .u32 0 (lent xs) ∧ Limb xs

theorem LendS.sl {w : World} {L g : Nat} {xs : List Int} (h : LendS w L g xs) (hm : xs.length ≤ 1000000) : Sl w (.slice (some ⟨g, 5, none⟩) xs.length (xs.length + 5)) xs := by
  obtain ⟨_, cur, hh, hs, ha, hl⟩ := h
  refine ⟨_, xs.length + 5, rfl, by omega, by unfold maxLen; omega, hl, .inr ⟨g, 5, rfl, fun i hi => ?_⟩⟩
  rw [cell_of_row w g (5 + i) cur _ (0, 0) hh]
  have e := ha (5 + i) (by rw [lent_length]; omega)
  rw [Nat.zero_add] at e
  rw [e, lent_mid (by omega) (by omega), Nat.add_sub_cancel_left]

theorem LendS.touch {w w' : World} {L g M : Nat} {xs : List Int} (h : LendS w L g xs) (t : Touch w w' M) (h1 : L ≠ M) (h2 : g ≠ M) : LendS w' L g xs := by
  obtain ⟨h3, cur, hh, r⟩ := h
  exact ⟨by rw [t.other L (lt_of_heap h3) h1]; exact h3, cur, by rw [t.other g (lt_of_heap hh) h2]; exact hh, r⟩

theorem LendS.below {w w' : World} {L g : Nat} {xs : List Int} (h : LendS w L g xs) (hb : Below w.heap.size w w') : LendS w' L g xs := by
  obtain ⟨h3, cur, hh, r⟩ := h
  exact ⟨by rw [hb.block L (lt_of_heap h3)]; exact h3, cur, by rw [hb.block g (lt_of_heap hh)]; exact hh, r⟩

theorem marks_fill {qs : List Int} {n k : Nat} (hq : qs = marks k) (hk : k < n) : (qs ++ (List.replicate n (0 : Int)).drop k).set k (2779096485 + (k : Int)) = marks (k + 1) ++ (List.replicate n (0 : Int)).drop (k + 1) := by
  rw [set_snoc qs _ k _ (by rw [hq, marks_length]) (by simpa using hk), hq]
  congr 1
  simp [marks, List.range_succ]

theorem size32 : (Try.prog.info? 47).map (·.size) = some 1 := by kernel_rfl

theorem lrow_cells {w : World} {b off : Nat} {zs : List Int} (hc : ∀ i, i < zs.length → w.cell? ⟨b, off + i, none⟩ = some (.int .u32 (zs.getD i 0))) : ∀ j u, (zs.map (Value.int .u32))[j]? = some u → w.cell? ((⟨b, off, none⟩ : Addr).add j) = some u := by
  intro j u hu
  rw [List.getElem?_map] at hu
  have hj : j < zs.length := by
    apply Classical.byContradiction
    intro hn
    rw [List.getElem?_eq_none (by omega)] at hu
    cases hu
  rw [List.getElem?_eq_getElem hj] at hu
  have hcj := hc j hj
  rw [List.getD_eq_getElem?_getD, List.getElem?_eq_getElem hj] at hcj
  rw [show ((⟨b, off, none⟩ : Addr).add j) = ⟨b, off + j, none⟩ from by simp [Addr.add], hcj]
  exact hu

theorem lrow_one (zs : List Int) : ∀ u ∈ zs.map (Value.int .u32), u.oneCell' = true := by
  intro u hu
  obtain ⟨z, _, rfl⟩ := List.mem_map.1 hu
  rfl

/-- A slice that does not lie in block L reads as it did. -/
theorem Sl.touch {w w' : World} {L n c : Nat} {a : Option Addr} {zs : List Int} (h : Sl w (.slice a n c) zs) (t : Touch w w' L) (hne : 0 < zs.length → ∀ b off, a = some ⟨b, off, none⟩ → b ≠ L) : Sl w' (.slice a n c) zs := by
  obtain ⟨ao', cap', hv, h1, h2, h3, h4⟩ := h
  obtain ⟨rfl, rfl, rfl⟩ := (Value.slice.injEq .. ▸ hv)
  refine ⟨_, _, rfl, h1, h2, h3, ?_⟩
  rcases h4 with h4 | ⟨b, off, rfl, hc⟩
  · exact .inl h4
  · refine .inr ⟨b, off, rfl, fun i hi => ?_⟩
    have h5 := hc i hi
    rw [World.cell?_of_block (w := w) (t.other b (lt_of_cell h5) (hne (by omega) b off rfl))]
    exact h5

theorem at_splice {cur : Array Value} {xs : List Int} (hs : cur.size = xs.length + 10) (ha : At cur .u32 0 (marks (xs.length + 10))) : At (splice cur.toList 5 (xs.map (Value.int .u32))).toArray .u32 0 (lent xs) := by
  intro i hi
  rw [lent_length] at hi
  have hl5 : (cur.toList.take 5).length = 5 := by rw [List.length_take, Array.length_toList, hs]; omega
  rw [Nat.zero_add, List.getElem?_toArray, splice]
  by_cases h1 : i < 5
  · rw [List.getElem?_append_left (by omega), List.getElem?_take, if_pos h1, Array.getElem?_toList]
    have e := ha i (by rw [marks_length]; omega)
    rw [Nat.zero_add] at e
    rw [e, marks_getD (by omega), lent_low h1]
  · rw [List.getElem?_append_right (by omega), hl5]
    by_cases h2 : i < 5 + xs.length
    · rw [List.getElem?_append_left (by rw [List.length_map]; omega), List.getElem?_map, lent_mid (by omega) h2, List.getD_eq_getElem?_getD, List.getElem?_eq_getElem (by omega)]
      rfl
    · rw [List.getElem?_append_right (by rw [List.length_map]; omega), List.length_map, List.getElem?_drop, Array.getElem?_toList, show 5 + xs.length + (i - 5 - xs.length) = i by omega]
      have e := ha i (by rw [marks_length]; omega)
      rw [Nat.zero_add] at e
      rw [e, marks_getD (by omega), lent_high (by omega) (by omega)]

theorem ret_slice {a : Option Addr} {n m c : Nat} (h : n = m) : Ending.returned (.slice a n c) = .returned (.slice a m c) := by rw [h]

set_option maxRecDepth 20000 in
set_option maxHeartbeats 1000000 in
theorem lend_any (w : World) (L : Nat) (u0 u1 : Value) (a1 : Option Addr) (n c1 : Nat) (xs : List Int) (hL : w.heap[L]? = some (.cells #[u0, u1] 28 (0, 0))) (hx : Sl w (.slice a1 n c1) xs) (hm : xs.length ≤ 100000)
    (hne : 0 < xs.length → ∀ b off, a1 = some ⟨b, off, none⟩ → b ≠ L) :
    Calls Try.prog 10 #[.pointer (some ⟨L, 0, none⟩), .slice a1 n c1] w fun e w' => e = .returned (.slice (some ⟨w.heap.size, 5, none⟩) xs.length (xs.length + 5)) ∧ LendS w' L w.heap.size xs ∧ Touch w w' L := by
  obtain ⟨rfl, h1, h2, h3⟩ := hx.parts
  obtain ⟨i0, hi, hz0, hz1, hz2⟩ := info_parts info32
  have lL := lt_of_heap hL
  have cL := (cell_of_row w L 0 _ _ (0, 0) hL).trans (show (#[u0, u1] : Array Value)[0]? = some u0 from rfl)
  have dL := (cell_of_row w L 1 _ _ (0, 0) hL).trans (show (#[u0, u1] : Array Value)[1]? = some u1 from rfl)
  have fL := frozen_of_row w L 0 _ _ hL
  have H3 := hide h3
  have HL := hide hL
  clear h3 hL
  go_enter Try.func10, Try.ntmps10
  go_wp2_with (refine wpList_make_full _ rfl (.tmp 9) (.tmp 9) 22 rfl w.heap.size 47 i0 (.int .u32 0) 1 Try.underlying22 hi hz0 hz1 .i64 .i64 _ _ (xs.length + 10) rfl rfl (by omega) (by omega) (by rw [hz2]; omega) (by unfold maxLen; omega) (Nat.le_refl _) ?hK)
  case hK =>
    intro w1 hown hgrow
    obtain ⟨_, cur, hh, hcs, hat⟩ := block_of_made hown
    have hb1 : Below w.heap.size w w1 := (Below.refl w.heap.size w).grown hgrow (Nat.le_refl _) (by simp)
    have cL1 := (hb1.cell (p := ⟨L, 0, none⟩) lL).trans cL
    have dL1 := (hb1.cell (p := ⟨L, 1, none⟩) lL).trans dL
    have fL1 := (hb1.frozen (p := ⟨L, 0, none⟩) lL).trans fL
    have hL1 : w1.heap[L]? = some (.cells #[u0, u1] 28 (0, 0)) := by rw [hb1.block L lL]; exact HL.out
    have HL1 := hide hL1
    have HH := hide hh
    have HS := hide hcs
    have HA := hide hat
    clear hown hgrow hh hcs hat hL1
    go_wp2
    have hLg : L ≠ w.heap.size := by omega
    have a1' := heap_setCell_same w1 L 0 _ _ (.slice (some ⟨w.heap.size, 0, none⟩) (xs.length + 10) (xs.length + 10)) HL1.out
    have a2' : (w1.setCell ⟨L, 0, none⟩ (.slice (some ⟨w.heap.size, 0, none⟩) (xs.length + 10) (xs.length + 10))).heap[w.heap.size]? = some (.cells cur 47 (0, 0)) := by
      rw [heap_setCell_other w1 ⟨L, 0, none⟩ _ _ (by simpa using fun e => hLg e.symm)]; exact HH.out
    have t2 : Touch w (w1.setCell ⟨L, 0, none⟩ (.slice (some ⟨w.heap.size, 0, none⟩) (xs.length + 10) (xs.length + 10))) L :=
      ⟨hb1.os, hb1.tape, hb1.output, by simp [World.setCell]; exact hb1.size, fun k hk hn => (heap_setCell_other w1 ⟨L, 0, none⟩ k _ hn).trans (hb1.block k hk)⟩
    have A := hide (And.intro a1' (And.intro a2' t2))
    clear a1' a2' t2 cL1 dL1 fL1 cL dL fL
    generalize w1.setCell ⟨L, 0, none⟩ (.slice (some ⟨w.heap.size, 0, none⟩) (xs.length + 10) (xs.length + 10)) = w2 at A ⊢
    go_loopw [5] (fun i wr => ∃ (k : Nat) (cur' : Array Value), k ≤ xs.length + 10 ∧ i = .int .i64 k ∧ Wr w2 wr w.heap.size cur' 47 ∧ cur'.size = xs.length + 10 ∧ At cur' .u32 0 (marks k ++ (List.replicate (xs.length + 10) (0 : Int)).drop k)) (fun i _ => xs.length + 10 - (intOf i).toNat)
    case atStart => exact ⟨0, cur, Nat.zero_le _, rfl, Wr.refl A.out.2.1, HS.out, by simpa [marks] using HA.out⟩
    case round =>
      obtain ⟨k, cur', hk, rfl, hwr, hcs, hat⟩ := hrel
      have HW := hide hwr
      have HC := hide hcs
      have HT := hide hat
      have hLr : wr.heap[L]? = some (.cells #[.slice (some ⟨w.heap.size, 0, none⟩) (xs.length + 10) (xs.length + 10), u1] 28 (0, 0)) := by
        rw [hwr.other L hLg]; exact A.out.1
      have cLr := (cell_of_row wr L 0 _ _ (0, 0) hLr).trans (show (#[.slice (some ⟨w.heap.size, 0, none⟩) (xs.length + 10) (xs.length + 10), u1] : Array Value)[0]? = some _ from rfl)
      have HLr := hide hLr
      clear hwr hcs hat
      by_cases hlt : k < xs.length + 10
      · have hlen : (marks k ++ (List.replicate (xs.length + 10) (0 : Int)).drop k).length = xs.length + 10 := by rw [List.length_append, marks_length]; simp; omega
        have hcell := HT.out.cell HW.out.here k (by rw [hlen]; omega)
        rw [Nat.zero_add] at hcell
        generalize (marks k ++ (List.replicate (xs.length + 10) (0 : Int)).drop k).getD k 0 = old at hcell
        have hfree := HW.out.free k
        have HT' := hide (HT.out.set k (2779096485 + (k : Int)))
        have HW' := hide (HW.out.set k (.int .u32 (2779096485 + (k : Int))))
        clear hlen hLr
        go_wp2
        go_roundw
        case rel => exact ⟨k + 1, _, by omega, by go_num, HW'.out, by simpa using HC.out, by rw [← marks_fill rfl hlt]; simpa using HT'.out⟩
        case measure => simp [intOf]; omega
      · have hkn : k = xs.length + 10 := by omega
        subst hkn
        have dLr := (cell_of_row wr L 1 _ _ (0, 0) hLr).trans (show (#[.slice (some ⟨w.heap.size, 0, none⟩) (xs.length + 10) (xs.length + 10), u1] : Array Value)[1]? = some _ from rfl)
        have fLr := frozen_of_row wr L 1 _ _ hLr
        have hat2 := HT.out
        rw [List.drop_of_length_le (by simp), List.append_nil] at hat2
        have HT2 := hide hat2
        have b1 := heap_setCell_same wr L 1 _ _ (.int .i64 xs.length) hLr
        have b2 : (wr.setCell ⟨L, 1, none⟩ (.int .i64 xs.length)).heap[w.heap.size]? = some (.cells cur'.toList.toArray 47 (0, 0)) := by
          rw [heap_setCell_other wr ⟨L, 1, none⟩ _ _ (by simpa using fun e => hLg e.symm), Array.toArray_toList]; exact HW.out.here
        have b3 : Touch w (wr.setCell ⟨L, 1, none⟩ (.int .i64 xs.length)) L := by
          have t2 := A.out.2.2
          have hw := HW.out
          exact ⟨hw.os.trans t2.os, hw.tape.trans t2.tape, hw.output.trans t2.output, by simp [World.setCell]; rw [hw.size]; exact t2.size, fun j hj hn => (heap_setCell_other wr ⟨L, 1, none⟩ j _ hn).trans ((hw.other j (by omega)).trans (t2.other j hj hn))⟩
        have b4 := hx.touch b3 hne
        have hpos : 0 < (xs.map (Value.int .u32)).length → (some ⟨w.heap.size, 5, none⟩ : Option Addr) = some ⟨w.heap.size, 5, none⟩ ∧ ∃ ad, a1 = some ad ∧ ∀ j v, (xs.map (Value.int .u32))[j]? = some v → (wr.setCell ⟨L, 1, none⟩ (.int .i64 xs.length)).cell? (ad.add j) = some v := by
          intro h0
          rw [List.length_map] at h0
          obtain ⟨b, off, rfl, hc⟩ := b4.cells h0
          exact ⟨rfl, _, rfl, lrow_cells hc⟩
        have B := hide (And.intro b1 b3)
        clear hat2 hLr b1 b3 b4
        go_wp2_with (refine wpList_copy_splice rfl (.tmp 40) (.tmp 41) 22 22 rfl 47 Try.underlying22 size32 _ _ _ _ _ _ rfl rfl w.heap.size 5 cur'.toList 47 b2 (xs.map (Value.int .u32)) (by simp [Nat.min_def]) hpos ?hfit (lrow_one xs) w.heap.size _ (Below.refl _ _) (Nat.le_refl _) ?h)
        case hfit => have := HC.out; simp; omega
        case h =>
          intro w4 hg4 hb4
          have hfin : LendS w4 L w.heap.size xs := by
            refine ⟨?_, _, hg4.out, ?_, at_splice HC.out HT2.out, H3.out⟩
            · rw [hb4.block L (by omega)]
              exact B.out.1
            · rw [List.size_toArray, length_splice _ _ _ (by have := HC.out; simp; omega), Array.length_toList, HC.out]
          have hto : Touch w w4 L := by
            have t := B.out.2
            exact ⟨hb4.os.trans t.os, hb4.tape.trans t.tape, hb4.output.trans t.output, Nat.le_trans t.size hb4.size, fun j hj hn => (hb4.block j hj).trans (t.other j hj hn)⟩
          have cL4 := (cell_of_row w4 L 0 _ _ (0, 0) hfin.1).trans (show (#[.slice (some ⟨w.heap.size, 0, none⟩) (xs.length + 10) (xs.length + 10), .int .i64 xs.length] : Array Value)[0]? = some _ from rfl)
          clear hg4 hb4
          go_wp2
          go_ret
          exact ⟨ret_slice (by omega), hfin, hto⟩

end Lm
end Go.Proofs.Ythbomfboohjcfad

namespace Go.Proofs.Ythbomfboohjcfad
namespace Lm
open Go.RowKit

def bmk (i : Nat) : Value := .int .u32 (1358954496 + (i : Int))
def bmks (n : Nat) : List Value := (List.range n).map bmk
theorem bmks_succ (n : Nat) : bmks (n + 1) = bmks n ++ [bmk n] := by simp [bmks, List.range_succ]
theorem bmks_length (n : Nat) : (bmks n).length = n := by simp [bmks]
theorem bmks_get {n i : Nat} (h : i < n) : (bmks n)[i]? = some (bmk i) := by simp [bmks, h]

/-- The list u, the i-th that was taken, bears its mark; it lies in none of the book's two rows. -/
def RoomOk (w : World) (bs : List Nat) (lv mv : Value) (i : Nat) (u : Value) : Prop :=
  ∃ ao n cap, u = .slice ao n cap ∧ n ≤ cap ∧ n ≤ 4096 ∧ cap ≤ 9223372036854775807 ∧ (n = 0 ∨ ∃ g off, ao = some ⟨g, off, none⟩ ∧ g ∈ bs ∧ lv.ownBlock ≠ some g ∧ mv.ownBlock ≠ some g ∧ ∀ k, k < n → w.cell? ⟨g, off + k, none⟩ = some (bmk i))

/-- The book at block p holds the lists rv and m marks; all its memory but p are the blocks bs, from Q on. -/
structure Bk (w : World) (p Q : Nat) (bs : List Nat) (rv : List Value) (m : Nat) (lv mv : Value) : Prop where
  here : w.heap[p]? = some (.cells #[lv, mv] 36 (0, 0))
  lists : w.ownsRow Q 22 1 lv rv.length rv
  marks : w.ownsRow Q 47 1 mv m (bmks m)
  lvb : ∀ j, lv.ownBlock = some j → j ∈ bs
  mvb : ∀ j, mv.ownBlock = some j → j ∈ bs
  two : ∀ j, lv.ownBlock = some j → mv.ownBlock ≠ some j
  rooms : ∀ i u, rv[i]? = some u → RoomOk w bs lv mv i u
  low : ∀ j, j ∈ bs → Q ≤ j ∧ j < w.heap.size
  pQ : p ∉ bs

theorem owns_kept {Q e n : Nat} {w w' : World} {v : Value} {xs : List Value} (h : w.ownsRow Q e 1 v n xs) (hb : ∀ j, v.ownBlock = some j → w'.heap[j]? = w.heap[j]?) : w'.ownsRow Q e 1 v n xs := by
  obtain ⟨h1, h2⟩ := h
  refine ⟨h1, ?_⟩
  rcases h2 with h2 | ⟨g, cap, cur, rfl, hg, hh, r⟩
  · exact .inl h2
  · exact .inr ⟨g, cap, cur, rfl, hg, by rw [hb g rfl]; exact hh, r⟩

theorem RoomOk.kept {w w' : World} {bs bs' : List Nat} {lv mv lv' mv' : Value} {i : Nat} {u : Value} (h : RoomOk w bs lv mv i u)
    (hb : ∀ j, j ∈ bs → j ∈ bs') (hl : ∀ j, j ∈ bs → lv.ownBlock ≠ some j → mv.ownBlock ≠ some j → lv'.ownBlock ≠ some j ∧ mv'.ownBlock ≠ some j ∧ w'.heap[j]? = w.heap[j]?) : RoomOk w' bs' lv' mv' i u := by
  obtain ⟨ao, n, cap, rfl, h1, h2, h3, h4⟩ := h
  refine ⟨ao, n, cap, rfl, h1, h2, h3, ?_⟩
  rcases h4 with h4 | ⟨g, off, rfl, hg, e1, e2, hc⟩
  · exact .inl h4
  · obtain ⟨f1, f2, f3⟩ := hl g hg e1 e2
    exact .inr ⟨g, off, rfl, hb g hg, f1, f2, fun k hk => by rw [World.cell?_of_block (w := w) f3]; exact hc k hk⟩

/-- The book in a world in which its blocks are as they were. -/
theorem Bk.kept {w w' : World} {p Q m : Nat} {bs : List Nat} {rv : List Value} {lv mv : Value} (h : Bk w p Q bs rv m lv mv) (hp : w'.heap[p]? = w.heap[p]?) (hb : ∀ j, j ∈ bs → w'.heap[j]? = w.heap[j]?) (hs : w.heap.size ≤ w'.heap.size) : Bk w' p Q bs rv m lv mv :=
  ⟨hp.trans h.here, owns_kept h.lists fun j hj => hb j (h.lvb j hj), owns_kept h.marks fun j hj => hb j (h.mvb j hj), h.lvb, h.mvb, h.two,
   fun i u hu => (h.rooms i u hu).kept (fun _ hj => hj) fun j hj e1 e2 => ⟨e1, e2, hb j hj⟩, fun j hj => ⟨(h.low j hj).1, Nat.lt_of_lt_of_le (h.low j hj).2 hs⟩, h.pQ⟩

theorem Bk.lt {w : World} {p Q m : Nat} {bs : List Nat} {rv : List Value} {lv mv : Value} (h : Bk w p Q bs rv m lv mv) : p < w.heap.size := lt_of_heap h.here

theorem Bk.below {w w' : World} {p Q m : Nat} {bs : List Nat} {rv : List Value} {lv mv : Value} (h : Bk w p Q bs rv m lv mv) (hb : Below w.heap.size w w') : Bk w' p Q bs rv m lv mv :=
  h.kept (hb.block p h.lt) (fun j hj => hb.block j (h.low j hj).2) hb.size

theorem Bk.touch {w w' : World} {p Q m L : Nat} {bs : List Nat} {rv : List Value} {lv mv : Value} (h : Bk w p Q bs rv m lv mv) (t : Touch w w' L) (h1 : p ≠ L) (h2 : L ∉ bs) : Bk w' p Q bs rv m lv mv :=
  h.kept (t.other p h.lt h1) (fun j hj => t.other j (h.low j hj).2 (fun e => h2 (e ▸ hj))) t.size

/-- More blocks are counted. -/
theorem Bk.more {w : World} {p Q m : Nat} {bs gs : List Nat} {rv : List Value} {lv mv : Value} (h : Bk w p Q bs rv m lv mv) (hg : ∀ j, j ∈ gs → Q ≤ j ∧ j < w.heap.size) (hp : p ∉ gs) : Bk w p Q (gs ++ bs) rv m lv mv :=
  ⟨h.here, h.lists, h.marks, fun j hj => List.mem_append_right _ (h.lvb j hj), fun j hj => List.mem_append_right _ (h.mvb j hj), h.two,
   fun i u hu => (h.rooms i u hu).kept (fun _ hj => List.mem_append_right _ hj) fun _ _ e1 e2 => ⟨e1, e2, rfl⟩,
   fun j hj => (List.mem_append.1 hj).elim (hg j) (h.low j), fun hj => (List.mem_append.1 hj).elim hp h.pQ⟩

theorem setCell_block {w : World} {p i k : Nat} {u : Value} (h : k ≠ p) : (w.setCell ⟨p, i, none⟩ u).heap[k]? = w.heap[k]? := heap_setCell_other w ⟨p, i, none⟩ k u h

theorem own_of {a : Addr} {n c j : Nat} (h : (Value.slice (some a) n c).ownBlock = some j) : a.block = j := by simpa [Value.ownBlock] using h

/-- A list more in the row of lists. -/
theorem Bk.list_step {w w1 : World} {p Q m : Nat} {bs : List Nat} {rv : List Value} {lv mv u : Value} {o : Obj} {g1 c1 : Nat} (h : Bk w p Q bs rv m lv mv) (hg : (w.alloc o).grownBy w1 lv.ownBlock)
    (hown : w1.ownsRow Q 22 1 (.slice (some ⟨g1, 0, none⟩) (rv.length + 1) c1) (rv.length + 1) (rv ++ [u])) (hat : lv.ownBlock = some g1 ∨ g1 = w.heap.size + 1) (hlt : g1 < w1.heap.size) (hQ : Q ≤ w.heap.size)
    (hu : RoomOk w bs lv mv rv.length u) : Bk (w1.setCell ⟨p, 0, none⟩ (.slice (some ⟨g1, 0, none⟩) (rv.length + 1) c1)) p Q (g1 :: bs) (rv ++ [u]) m (.slice (some ⟨g1, 0, none⟩) (rv.length + 1) c1) mv := by
  have hp := h.lt
  have al : ∀ j, j < w.heap.size → (w.alloc o).heap[j]? = w.heap[j]? := fun j hj => Below.heap_alloc _ _ _ hj
  have hsz : w.heap.size + 1 ≤ w1.heap.size := by have := hg.size; simpa using this
  have pl : lv.ownBlock ≠ some p := fun e => h.pQ (h.lvb p e)
  have gp : g1 ≠ p := by
    rcases hat with e | e
    · intro e'; rw [e'] at e; exact pl e
    · omega
  have keep : ∀ j, j < w.heap.size → lv.ownBlock ≠ some j → w1.heap[j]? = w.heap[j]? := fun j hj hn => (hg.block j (by simp; omega) (fun e => hn e.symm)).trans (al j hj)
  have here1 : w1.heap[p]? = some (.cells #[lv, mv] 36 (0, 0)) := (keep p hp pl).trans h.here
  have nogo : ∀ j, j < w.heap.size → lv.ownBlock ≠ some j → g1 ≠ j := by
    intro j hj hn e
    rcases hat with e' | e'
    · rw [e] at e'; exact hn e'
    · omega
  have keep2 : ∀ j, j < w.heap.size → lv.ownBlock ≠ some j → j ≠ p → (w1.setCell ⟨p, 0, none⟩ (.slice (some ⟨g1, 0, none⟩) (rv.length + 1) c1)).heap[j]? = w.heap[j]? := fun j hj hn hne => (setCell_block hne).trans (keep j hj hn)
  refine ⟨?_, ?_, ?_, ?_, ?_, ?_, ?_, ?_, fun hj => (List.mem_cons.1 hj).elim (fun e => gp e.symm) h.pQ⟩
  · exact heap_setCell_same w1 p 0 _ _ _ here1
  · have e : (rv ++ [u]).length = rv.length + 1 := by simp
    rw [e]
    exact owns_kept hown fun j hj => setCell_block (by have := own_of hj; simp at this; omega)
  · exact owns_kept h.marks fun j hj => by
      have hjb := h.low j (h.mvb j hj)
      exact keep2 j hjb.2 (fun e => h.two j e hj) (fun e => h.pQ (e ▸ h.mvb j hj))
  · intro j hj
    have := own_of hj
    simp at this
    simp [this]
  · exact fun j hj => List.mem_cons_of_mem _ (h.mvb j hj)
  · intro j hj e
    have e1 := own_of hj
    simp at e1
    subst e1
    have hjb := h.low _ (h.mvb _ e)
    rcases hat with e' | e'
    · exact h.two _ e' e
    · omega
  · intro i v hv
    have step : ∀ {i v}, RoomOk w bs lv mv i v → RoomOk (w1.setCell ⟨p, 0, none⟩ (.slice (some ⟨g1, 0, none⟩) (rv.length + 1) c1)) (g1 :: bs) (.slice (some ⟨g1, 0, none⟩) (rv.length + 1) c1) mv i v := fun hr =>
      hr.kept (fun _ hj => List.mem_cons_of_mem _ hj) fun j hj e1 e2 => by
        have hjb := h.low j hj
        have hpq := h.pQ
        refine ⟨?_, e2, keep2 j hjb.2 e1 (fun e => hpq (e ▸ hj))⟩
        intro e
        have := own_of e
        exact nogo j hjb.2 e1 (by simpa using this)
    by_cases hi : i < rv.length
    · rw [List.getElem?_append_left hi] at hv
      exact step (h.rooms i v hv)
    · have hi2 : i = rv.length := by
        apply Classical.byContradiction
        intro hn
        rw [List.getElem?_eq_none (by simp; omega)] at hv
        cases hv
      subst hi2
      rw [List.getElem?_append_right (Nat.le_refl _)] at hv
      simp at hv
      subst hv
      exact step hu
  · intro j hj
    have hss : (w1.setCell ⟨p, 0, none⟩ (.slice (some ⟨g1, 0, none⟩) (rv.length + 1) c1)).heap.size = w1.heap.size := by simp [World.setCell]
    rw [hss]
    rcases List.mem_cons.1 hj with e | e
    · subst e
      refine ⟨?_, hlt⟩
      rcases hat with e' | e'
      · exact (h.low _ (h.lvb _ e')).1
      · omega
    · have := h.low j e
      omega

/-- A mark more in the row of marks. -/
theorem Bk.mark_step {w w1 : World} {p Q m : Nat} {bs : List Nat} {rv : List Value} {lv mv : Value} {o : Obj} {g1 c1 : Nat} (h : Bk w p Q bs rv m lv mv) (hg : (w.alloc o).grownBy w1 mv.ownBlock)
    (hown : w1.ownsRow Q 47 1 (.slice (some ⟨g1, 0, none⟩) (m + 1) c1) (m + 1) (bmks m ++ [bmk m])) (hat : mv.ownBlock = some g1 ∨ g1 = w.heap.size + 1) (hlt : g1 < w1.heap.size) (hQ : Q ≤ w.heap.size) :
    Bk (w1.setCell ⟨p, 1, none⟩ (.slice (some ⟨g1, 0, none⟩) (m + 1) c1)) p Q (g1 :: bs) rv (m + 1) lv (.slice (some ⟨g1, 0, none⟩) (m + 1) c1) := by
  have hp := h.lt
  have al : ∀ j, j < w.heap.size → (w.alloc o).heap[j]? = w.heap[j]? := fun j hj => Below.heap_alloc _ _ _ hj
  have hsz : w.heap.size + 1 ≤ w1.heap.size := by have := hg.size; simpa using this
  have pl : mv.ownBlock ≠ some p := fun e => h.pQ (h.mvb p e)
  have gp : g1 ≠ p := by
    rcases hat with e | e
    · intro e'; rw [e'] at e; exact pl e
    · omega
  have keep : ∀ j, j < w.heap.size → mv.ownBlock ≠ some j → w1.heap[j]? = w.heap[j]? := fun j hj hn => (hg.block j (by simp; omega) (fun e => hn e.symm)).trans (al j hj)
  have here1 : w1.heap[p]? = some (.cells #[lv, mv] 36 (0, 0)) := (keep p hp pl).trans h.here
  have nogo : ∀ j, j < w.heap.size → mv.ownBlock ≠ some j → g1 ≠ j := by
    intro j hj hn e
    rcases hat with e' | e'
    · rw [e] at e'; exact hn e'
    · omega
  have keep2 : ∀ j, j < w.heap.size → mv.ownBlock ≠ some j → j ≠ p → (w1.setCell ⟨p, 1, none⟩ (.slice (some ⟨g1, 0, none⟩) (m + 1) c1)).heap[j]? = w.heap[j]? := fun j hj hn hne => (setCell_block hne).trans (keep j hj hn)
  refine ⟨?_, ?_, ?_, ?_, ?_, ?_, ?_, ?_, fun hj => (List.mem_cons.1 hj).elim (fun e => gp e.symm) h.pQ⟩
  · exact heap_setCell_same w1 p 1 _ _ _ here1
  · exact owns_kept h.lists fun j hj => by
      have hjb := h.low j (h.lvb j hj)
      exact keep2 j hjb.2 (h.two j hj) (fun e => h.pQ (e ▸ h.lvb j hj))
  · rw [bmks_succ]
    exact owns_kept hown fun j hj => setCell_block (by have := own_of hj; simp at this; omega)
  · exact fun j hj => List.mem_cons_of_mem _ (h.lvb j hj)
  · intro j hj
    have := own_of hj
    simp at this
    simp [this]
  · intro j hj e
    have e1 := own_of e
    simp at e1
    subst e1
    have hjb := h.low _ (h.lvb _ hj)
    rcases hat with e' | e'
    · exact h.two _ hj e'
    · omega
  · intro i v hv
    refine (h.rooms i v hv).kept (fun _ hj => List.mem_cons_of_mem _ hj) fun j hj e1 e2 => ?_
    have hjb := h.low j hj
    have hpq := h.pQ
    refine ⟨e1, ?_, keep2 j hjb.2 e2 (fun e => hpq (e ▸ hj))⟩
    intro e
    have := own_of e
    exact nogo j hjb.2 e2 (by simpa using this)
  · intro j hj
    have hss : (w1.setCell ⟨p, 1, none⟩ (.slice (some ⟨g1, 0, none⟩) (m + 1) c1)).heap.size = w1.heap.size := by simp [World.setCell]
    rw [hss]
    rcases List.mem_cons.1 hj with e | e
    · subst e
      refine ⟨?_, hlt⟩
      rcases hat with e' | e'
      · exact (h.low _ (h.mvb _ e')).1
      · omega
    · have := h.low j e
      omega

/-- w' is w, but for block p, the blocks bs and new ones. -/
structure Kp (w w' : World) (p : Nat) (bs : List Nat) : Prop where
  os : w'.os = w.os
  tape : w'.tape = w.tape
  output : w'.output = w.output
  size : w.heap.size ≤ w'.heap.size
  other : ∀ k, k < w.heap.size → k ≠ p → k ∉ bs → w'.heap[k]? = w.heap[k]?

theorem Kp.trans {w w' w'' : World} {p : Nat} {bs bs' : List Nat} (h : Kp w w' p bs) (h' : Kp w' w'' p bs') (hb : ∀ j, j ∈ bs → j ∈ bs') : Kp w w'' p bs' :=
  ⟨h'.os.trans h.os, h'.tape.trans h.tape, h'.output.trans h.output, Nat.le_trans h.size h'.size, fun k hk hp hn => (h'.other k (Nat.lt_of_lt_of_le hk h.size) hp hn).trans (h.other k hk hp (fun hj => hn (hb k hj)))⟩

theorem Kp.of_wr {w w' : World} {p g : Nat} {bs : List Nat} {cur : Array Value} {e : TypeId} (h : Wr w w' g cur e) (hg : g ∈ bs) : Kp w w' p bs :=
  ⟨h.os, h.tape, h.output, by rw [h.size]; exact Nat.le_refl _, fun k _ _ hn => h.other k (fun e => hn (e ▸ hg))⟩

theorem Kp.refl (w : World) (p : Nat) (bs : List Nat) : Kp w w p bs := ⟨rfl, rfl, rfl, Nat.le_refl _, fun _ _ _ _ => rfl⟩

theorem Kp.step {w w1 : World} {p i : Nat} {bs : List Nat} {v u : Value} {o : Obj} (hg : (w.alloc o).grownBy w1 v.ownBlock) (hv : ∀ j, v.ownBlock = some j → j ∈ bs) : Kp w (w1.setCell ⟨p, i, none⟩ u) p bs :=
  ⟨hg.os, hg.tape, hg.output, by have := hg.size; simp [World.setCell] at this ⊢; omega, fun k hk hp hn => (setCell_block hp).trans ((hg.block k (by simp; omega) (fun e => hn (hv k e.symm))).trans (Below.heap_alloc _ _ _ hk))⟩

theorem Kp.below {w w' : World} {p B : Nat} {bs : List Nat} (h : Kp w w' p bs) (hp : B ≤ p) (hb : ∀ j, j ∈ bs → B ≤ j) (hs : B ≤ w.heap.size) : Below B w w' :=
  ⟨h.os, h.tape, h.output, h.size, fun k hk => h.other k (by omega) (by omega) (fun hj => by have := hb k hj; omega)⟩

end Lm
end Go.Proofs.Ythbomfboohjcfad

namespace Go.Proofs.Ythbomfboohjcfad
namespace Lm
open Go.RowKit

theorem infoL : (Try.prog.info? 22).map (fun i => (i.zero, i.size, i.bytes)) = some (some (.slice none 0 0), 1, 24) := by kernel_rfl

theorem owns_shape {w : World} {B e n : Nat} {v : Value} {xs : List Value} (h : w.ownsRow B e 1 v n xs) : ∃ a c, v = .slice a n c ∧ n ≤ c ∧ c ≤ 9223372036854775807 := by
  rcases h.2 with ⟨rfl, rfl⟩ | ⟨g, cap, cur, rfl, _, _, h1, h2, _⟩
  · exact ⟨none, 0, rfl, Nat.le_refl _, by omega⟩
  · exact ⟨_, cap, rfl, h1, h2⟩

theorem Bk.grown {w w1 : World} {p Q m : Nat} {bs : List Nat} {rv : List Value} {lv mv v : Value} {o : Obj} (h : Bk w p Q bs rv m lv mv) (hg : (w.alloc o).grownBy w1 v.ownBlock) (hv : ∀ j, v.ownBlock = some j → j ∈ bs) :
    w1.cell? ⟨p, 0, none⟩ = some lv ∧ w1.cell? ⟨p, 1, none⟩ = some mv ∧ w1.frozen? ⟨p, 0, none⟩ = false ∧ w1.frozen? ⟨p, 1, none⟩ = false := by
  have hp := h.lt
  have pl : v.ownBlock ≠ some p := fun e => h.pQ (hv p e)
  have e : w1.heap[p]? = some (.cells #[lv, mv] 36 (0, 0)) := ((hg.block p (by simp; omega) (fun e => pl e.symm)).trans (Below.heap_alloc _ _ _ hp)).trans h.here
  exact ⟨by rw [cell_of_row _ _ _ _ _ (0, 0) e]; rfl, by rw [cell_of_row _ _ _ _ _ (0, 0) e]; rfl, frozen_of_row _ _ _ _ _ e, frozen_of_row _ _ _ _ _ e⟩

theorem Bk.facts {w : World} {p Q m : Nat} {bs : List Nat} {rv : List Value} {lv mv : Value} (h : Bk w p Q bs rv m lv mv) :
    w.cell? ⟨p, 0, none⟩ = some lv ∧ w.cell? ⟨p, 1, none⟩ = some mv ∧ w.frozen? ⟨p, 0, none⟩ = false ∧ w.frozen? ⟨p, 1, none⟩ = false :=
  ⟨by rw [cell_of_row _ _ _ _ _ (0, 0) h.here]; rfl, by rw [cell_of_row _ _ _ _ _ (0, 0) h.here]; rfl, frozen_of_row _ _ _ _ _ h.here, frozen_of_row _ _ _ _ _ h.here⟩

theorem cell_new_at {W : World} {H : Nat} (hH : W.heap.size = H) (x : Value) (t : TypeId) : ∀ j u, [x][j]? = some u → (W.alloc (.cells #[x] t)).cell? ((⟨H, 0, none⟩ : Addr).add j) = some u := by
  subst hH
  exact cell_one_new _ _ _

/-- What Own leaves. -/
def OwnS (w w' : World) (p Q : Nat) (bs : List Nat) (len : Nat) (ao : Option Addr) : Prop :=
  ∃ bs' rv' lv' mv', rv'.length = len + 1 ∧ Bk w' p Q bs' rv' rv'.length lv' mv' ∧ Kp w w' p bs' ∧ (∀ j, j ∈ bs' → j ∈ bs ∨ w.heap.size ≤ j ∨ ∃ off, ao = some ⟨j, off, none⟩)

set_option maxRecDepth 20000 in
set_option maxHeartbeats 1000000 in
theorem own_zero_a (w : World) (p Q : Nat) (bs : List Nat) (rv : List Value) (lv mv : Value) (hk : Bk w p Q bs rv rv.length lv mv) (hr : rv.length ≤ 1000) (hQ : Q ≤ w.heap.size)  :
    Calls Try.prog 42 #[.pointer (some ⟨p, 0, none⟩), .slice none 0 0] w fun e w' => e = .returned (.bool true) ∧ OwnS w w' p Q bs rv.length none := by
  obtain ⟨i1, hi1, iz0, iz1, iz2⟩ := info_parts infoL
  obtain ⟨j1, hj1, jz0, jz1, jz2⟩ := info_parts info32
  obtain ⟨al, cl, rfl, al1, al2⟩ := owns_shape hk.lists
  obtain ⟨am, cm, rfl, am1, am2⟩ := owns_shape hk.marks
  obtain ⟨k0, k1, k2, k3⟩ := hk.facts
  have kp0 := hide (Kp.refl w p bs)
  have szr : w.heap.size ≤ w.heap.size := Nat.le_refl _
  have hQr : Q ≤ w.heap.size := hQ
  have hbs : ∀ j, j ∈ bs → j ∈ bs ∨ w.heap.size ≤ j ∨ ∃ off', none = some (⟨j, off', none⟩ : Addr) := fun j hj => .inl hj
  go_enter Try.func42, Try.ntmps42
  go_wp2
  refine wp_loop_rounds 1 ?_
  rw [rounds_succ]
  go_wp2_with (at_builtin; refine wpList_append_lies _ rfl (.tmp 38) (.tmp 40) 34 rfl Q 22 i1 (.slice none 0 0) 1 24 Try.underlying34 hi1 iz0 iz1 iz2 rfl (by decide) (.slice al rv.length cl) rv.length rv rfl ((hk).lists.alloc _) ⟨w.heap.size, 0, none⟩ 1 1 [.slice none 0 0] rfl rfl (cell_one_new _ _ _) (by intro u hu; simp at hu; subst hu; rfl) (by omega) (by unfold maxLen; omega) (by omega) (by have := (hk).lt; simp; omega) (w.heap.size + 1) (by simp) ?_)
  intro g1 q1 w1 hown1 hgrow1 hat1 hlt1
  have bk2 := (hk).list_step hgrow1 hown1 hat1 hlt1 hQr (⟨none, 0, 0, rfl, Nat.le_refl _, by omega, by omega, .inl rfl⟩)
  obtain ⟨x0, x1, x2, x3⟩ := (hk).grown hgrow1 (hk).lvb
  have kp1 := hide (Kp.step (p := p) (i := 0) (u := .slice (some ⟨g1, 0, none⟩) (rv.length + 1) q1) hgrow1 (hk).lvb)
  have sz1 := hide (show w.heap.size + 1 ≤ w1.heap.size by have := hgrow1.size; simpa using this)
  have A1 := hide hat1
  have BK2 := hide bk2
  obtain ⟨y0, y1, y2, y3⟩ := bk2.facts
  clear hgrow1 hown1 hat1 bk2 k0 k1 k2 k3
  go_wp2_with (at_builtin; refine wpList_append_lies _ rfl (.tmp 48) (.tmp 50) 22 rfl Q 47 j1 (.int .u32 0) 1 4 Try.underlying22 hj1 jz0 jz1 jz2 rfl (by decide) (.slice am rv.length cm) rv.length (bmks rv.length) rfl (BK2.out.marks.alloc _) ⟨w1.heap.size, 0, none⟩ 1 1 [bmk rv.length] rfl rfl (cell_new_at (by simp [World.setCell]) (bmk rv.length) _) (by intro u hu; simp at hu; subst hu; rfl) (by omega) (by unfold maxLen; omega) (by omega) (by have := BK2.out.lt; have := sz1.out; simp [World.setCell]; omega) (w1.heap.size + 1) (by simp [World.setCell]) ?_)
  intro g2 q2 w3 hown2 hgrow2 hat2 hlt2
  have hsz2 : (w1.setCell ⟨p, 0, none⟩ (.slice (some ⟨g1, 0, none⟩) (rv.length + 1) q1)).heap.size = w1.heap.size := by simp [World.setCell]
  have bk3 := BK2.out.mark_step hgrow2 hown2 (by rw [hsz2]; exact hat2) hlt2 (by rw [hsz2]; have := sz1.out; omega)
  obtain ⟨v0, v1, v2, v3⟩ := BK2.out.grown hgrow2 BK2.out.mvb
  have kp2 := Kp.step (p := p) (i := 1) (u := .slice (some ⟨g2, 0, none⟩) (rv.length + 1) q2) hgrow2 BK2.out.mvb
  have F : Hid (OwnS w (w3.setCell ⟨p, 1, none⟩ (.slice (some ⟨g2, 0, none⟩) (rv.length + 1) q2)) p Q bs rv.length none) := by
    refine ⟨g2 :: g1 :: bs, rv ++ [.slice none 0 0], .slice (some ⟨g1, 0, none⟩) (rv.length + 1) q1, .slice (some ⟨g2, 0, none⟩) (rv.length + 1) q2, ?_, ?_, ?_, ?_⟩
    · simp
    · rw [show (rv ++ [Value.slice none 0 0]).length = rv.length + 1 by simp]
      exact bk3
    · exact (kp0.out.trans (kp1.out.trans kp2 (fun j hj => List.mem_cons_of_mem _ hj)) (fun j hj => List.mem_cons_of_mem _ hj)).trans (Kp.refl _ _ _) (fun j hj => List.mem_cons_of_mem _ hj)
    · intro j hj
      have s1 := sz1.out
      rcases List.mem_cons.1 hj with e | hj
      · subst e
        rcases hat2 with e' | e'
        · exact hbs j ((hk).mvb j e')
        · right; left; have := szr; omega
      · rcases List.mem_cons.1 hj with e | hj
        · subst e
          rcases A1.out with e' | e'
          · exact hbs j ((hk).lvb j e')
          · right; left; have := szr; omega
        · exact hbs j hj
  clear hgrow2 hown2 hat2 bk3 kp2 x0 x1 x2 x3 y0 y1 y2 y3
  go_wp2
  go_ret
  exact ⟨rfl, F.out⟩

set_option maxRecDepth 20000 in
set_option maxHeartbeats 1000000 in
theorem own_zero_b (w : World) (p Q : Nat) (bs : List Nat) (rv : List Value) (lv mv : Value) (hk : Bk w p Q bs rv rv.length lv mv) (hr : rv.length ≤ 1000) (hQ : Q ≤ w.heap.size)  (ad : Addr) :
    Calls Try.prog 42 #[.pointer (some ⟨p, 0, none⟩), .slice (some ad) 0 0] w fun e w' => e = .returned (.bool true) ∧ OwnS w w' p Q bs rv.length none := by
  obtain ⟨i1, hi1, iz0, iz1, iz2⟩ := info_parts infoL
  obtain ⟨j1, hj1, jz0, jz1, jz2⟩ := info_parts info32
  obtain ⟨al, cl, rfl, al1, al2⟩ := owns_shape hk.lists
  obtain ⟨am, cm, rfl, am1, am2⟩ := owns_shape hk.marks
  obtain ⟨k0, k1, k2, k3⟩ := hk.facts
  have kp0 := hide (Kp.refl w p bs)
  have szr : w.heap.size ≤ w.heap.size := Nat.le_refl _
  have hQr : Q ≤ w.heap.size := hQ
  have hbs : ∀ j, j ∈ bs → j ∈ bs ∨ w.heap.size ≤ j ∨ ∃ off', none = some (⟨j, off', none⟩ : Addr) := fun j hj => .inl hj
  go_enter Try.func42, Try.ntmps42
  go_wp2
  refine wp_loop_rounds 1 ?_
  rw [rounds_succ]
  go_wp2_with (at_builtin; refine wpList_append_lies _ rfl (.tmp 38) (.tmp 40) 34 rfl Q 22 i1 (.slice none 0 0) 1 24 Try.underlying34 hi1 iz0 iz1 iz2 rfl (by decide) (.slice al rv.length cl) rv.length rv rfl ((hk).lists.alloc _) ⟨w.heap.size, 0, none⟩ 1 1 [.slice (some ad) 0 0] rfl rfl (cell_one_new _ _ _) (by intro u hu; simp at hu; subst hu; rfl) (by omega) (by unfold maxLen; omega) (by omega) (by have := (hk).lt; simp; omega) (w.heap.size + 1) (by simp) ?_)
  intro g1 q1 w1 hown1 hgrow1 hat1 hlt1
  have bk2 := (hk).list_step hgrow1 hown1 hat1 hlt1 hQr (⟨(some ad), 0, 0, rfl, Nat.le_refl _, by omega, by omega, .inl rfl⟩)
  obtain ⟨x0, x1, x2, x3⟩ := (hk).grown hgrow1 (hk).lvb
  have kp1 := hide (Kp.step (p := p) (i := 0) (u := .slice (some ⟨g1, 0, none⟩) (rv.length + 1) q1) hgrow1 (hk).lvb)
  have sz1 := hide (show w.heap.size + 1 ≤ w1.heap.size by have := hgrow1.size; simpa using this)
  have A1 := hide hat1
  have BK2 := hide bk2
  obtain ⟨y0, y1, y2, y3⟩ := bk2.facts
  clear hgrow1 hown1 hat1 bk2 k0 k1 k2 k3
  go_wp2_with (at_builtin; refine wpList_append_lies _ rfl (.tmp 48) (.tmp 50) 22 rfl Q 47 j1 (.int .u32 0) 1 4 Try.underlying22 hj1 jz0 jz1 jz2 rfl (by decide) (.slice am rv.length cm) rv.length (bmks rv.length) rfl (BK2.out.marks.alloc _) ⟨w1.heap.size, 0, none⟩ 1 1 [bmk rv.length] rfl rfl (cell_new_at (by simp [World.setCell]) (bmk rv.length) _) (by intro u hu; simp at hu; subst hu; rfl) (by omega) (by unfold maxLen; omega) (by omega) (by have := BK2.out.lt; have := sz1.out; simp [World.setCell]; omega) (w1.heap.size + 1) (by simp [World.setCell]) ?_)
  intro g2 q2 w3 hown2 hgrow2 hat2 hlt2
  have hsz2 : (w1.setCell ⟨p, 0, none⟩ (.slice (some ⟨g1, 0, none⟩) (rv.length + 1) q1)).heap.size = w1.heap.size := by simp [World.setCell]
  have bk3 := BK2.out.mark_step hgrow2 hown2 (by rw [hsz2]; exact hat2) hlt2 (by rw [hsz2]; have := sz1.out; omega)
  obtain ⟨v0, v1, v2, v3⟩ := BK2.out.grown hgrow2 BK2.out.mvb
  have kp2 := Kp.step (p := p) (i := 1) (u := .slice (some ⟨g2, 0, none⟩) (rv.length + 1) q2) hgrow2 BK2.out.mvb
  have F : Hid (OwnS w (w3.setCell ⟨p, 1, none⟩ (.slice (some ⟨g2, 0, none⟩) (rv.length + 1) q2)) p Q bs rv.length none) := by
    refine ⟨g2 :: g1 :: bs, rv ++ [.slice (some ad) 0 0], .slice (some ⟨g1, 0, none⟩) (rv.length + 1) q1, .slice (some ⟨g2, 0, none⟩) (rv.length + 1) q2, ?_, ?_, ?_, ?_⟩
    · simp
    · rw [show (rv ++ [Value.slice (some ad) 0 0]).length = rv.length + 1 by simp]
      exact bk3
    · exact (kp0.out.trans (kp1.out.trans kp2 (fun j hj => List.mem_cons_of_mem _ hj)) (fun j hj => List.mem_cons_of_mem _ hj)).trans (Kp.refl _ _ _) (fun j hj => List.mem_cons_of_mem _ hj)
    · intro j hj
      have s1 := sz1.out
      rcases List.mem_cons.1 hj with e | hj
      · subst e
        rcases hat2 with e' | e'
        · exact hbs j ((hk).mvb j e')
        · right; left; have := szr; omega
      · rcases List.mem_cons.1 hj with e | hj
        · subst e
          rcases A1.out with e' | e'
          · exact hbs j ((hk).lvb j e')
          · right; left; have := szr; omega
        · exact hbs j hj
  clear hgrow2 hown2 hat2 bk3 kp2 x0 x1 x2 x3 y0 y1 y2 y3
  go_wp2
  go_ret
  exact ⟨rfl, F.out⟩

set_option maxRecDepth 20000 in
set_option maxHeartbeats 1000000 in
theorem own_small (w : World) (p Q : Nat) (bs : List Nat) (rv : List Value) (lv mv : Value) (hk : Bk w p Q bs rv rv.length lv mv) (hr : rv.length ≤ 1000) (hQ : Q ≤ w.heap.size) (g off n cap : Nat) (cur : Array Value) (hh : w.heap[g]? = some (.cells cur 47 (0, 0))) (hsz : off + cap ≤ cur.size) (hgb : g ∉ bs) (hgQ : Q ≤ g) (_hn : n ≤ cap) (hcm : cap ≤ 9223372036854775807) (h4 : cap ≤ 4096) :
    Calls Try.prog 42 #[.pointer (some ⟨p, 0, none⟩), .slice (some ⟨g, off, none⟩) n cap] w fun e w' => e = .returned (.bool true) ∧ OwnS w w' p Q bs rv.length (some ⟨g, off, none⟩) := by
  obtain ⟨i1, hi1, iz0, iz1, iz2⟩ := info_parts infoL
  obtain ⟨j1, hj1, jz0, jz1, jz2⟩ := info_parts info32
  obtain ⟨al, cl, rfl, al1, al2⟩ := owns_shape hk.lists
  obtain ⟨am, cm, rfl, am1, am2⟩ := owns_shape hk.marks
  obtain ⟨k0, k1, k2, k3⟩ := hk.facts
  have HH := hide hh
  have HSZ := hide hsz
  have hpg : p ≠ g := fun e => by have h1 := hk.here; rw [e, hh] at h1; simp at h1
  clear hh hsz
  go_enter Try.func42, Try.ntmps42
  go_wp2
  go_loopw [7] (fun iv wr => ∃ (k : Nat) (cur' : Array Value), k ≤ cap ∧ iv = .int .i64 k ∧ Wr w wr g cur' 47 ∧ cur'.size = cur.size ∧ ∀ i, i < k → cur'[off + i]? = some (bmk rv.length)) (fun iv _ => cap - (intOf iv).toNat)
  case atStart => exact ⟨0, cur, Nat.zero_le _, rfl, Wr.refl HH.out, rfl, fun i hi => by omega⟩
  case round =>
    obtain ⟨k, cur', hkn, rfl, hwr, hcs, hfill⟩ := hrel
    by_cases hlt : k < cap
    · have hb : off + k < cur'.size := by have := HSZ.out; omega
      have old : cur'[off + k]? = some cur'[off + k] := Array.getElem?_eq_getElem hb
      have co : wr.cell? ⟨g, off + k, none⟩ = some cur'[off + k] := by rw [cell_of_row wr g (off + k) cur' _ (0, 0) hwr.here]; exact old
      have fo := hwr.free (off + k)
      have dA : (k : Int) < ((cap : Nat) : Int) := by omega
      have dC : (k : Int) < ((cap : Nat) : Int) := by omega
      have HW' := hide (hwr.set (off + k) (bmk rv.length))
      have HC' : Hid ((cur'.setIfInBounds (off + k) (bmk rv.length)).size = cur.size) := by show _ = _; rw [Array.size_setIfInBounds]; exact hcs
      have HF' : Hid (∀ i, i < k + 1 → (cur'.setIfInBounds (off + k) (bmk rv.length))[off + i]? = some (bmk rv.length)) := by
        intro i hi
        rw [Array.getElem?_setIfInBounds]
        by_cases e : off + k = off + i
        · rw [if_pos e, if_pos (by omega)]
        · rw [if_neg e]
          exact hfill i (by omega)
      clear hwr hcs hfill old
      generalize cur'[off + k] = u9 at co
      go_wp2
      go_roundw
      case rel => exact ⟨k + 1, _, by omega, by go_num, HW'.out, HC'.out, HF'.out⟩
      case measure => simp [intOf]; omega
    · have hkn' : cap = k := by omega
      subst hkn'
      have dA : ¬ ((cap : Nat) : Int) < ((cap : Nat) : Int) := by omega
      have bkr := (hk.kept (hwr.other p hpg) (fun j hj => hwr.other j (fun e => hgb (e ▸ hj))) (by rw [hwr.size]; exact Nat.le_refl _)).more (gs := [g]) (fun j hj => by simp at hj; subst hj; rw [hwr.size]; exact ⟨by omega, lt_of_heap HH.out⟩) (by simpa using hpg)
      have room : RoomOk wr ([g] ++ bs) (.slice al rv.length cl) (.slice am rv.length cm) rv.length (.slice (some ⟨g, off, none⟩) cap cap) := ⟨_, _, _, rfl, by omega, by omega, by omega, .inr ⟨g, off, rfl, by simp, fun e => hgb (hk.lvb _ e), fun e => hgb (hk.mvb _ e), fun i hi => by rw [cell_of_row wr g (off + i) cur' _ (0, 0) hwr.here]; exact hfill i hi⟩⟩
      have kp0 : Hid (Kp w wr p ([g] ++ bs)) := Kp.of_wr hwr (by simp)
      have szr : w.heap.size ≤ wr.heap.size := by rw [hwr.size]; exact Nat.le_refl _
      have hQr : Q ≤ wr.heap.size := by omega
      have hbs : ∀ j, j ∈ [g] ++ bs → j ∈ bs ∨ w.heap.size ≤ j ∨ ∃ off', some (⟨g, off, none⟩ : Addr) = some ⟨j, off', none⟩ := by
        intro j hj
        rcases List.mem_append.1 hj with e | e
        · simp at e; subst e; exact .inr (.inr ⟨off, rfl⟩)
        · exact .inl e
      obtain ⟨m0, m1, m2, m3⟩ := bkr.facts
      have BKR := hide bkr
      have ROOM := hide room
      have HBS := hide hbs
      have SZR := hide szr
      clear hwr hcs hfill bkr room hbs k0 k1 k2 k3
      go_wp2_with (at_builtin; refine wpList_append_lies _ rfl (.tmp 38) (.tmp 40) 34 rfl Q 22 i1 (.slice none 0 0) 1 24 Try.underlying34 hi1 iz0 iz1 iz2 rfl (by decide) (.slice al rv.length cl) rv.length rv rfl ((BKR.out).lists.alloc _) ⟨wr.heap.size, 0, none⟩ 1 1 [.slice (some ⟨g, off, none⟩) cap cap] rfl rfl (cell_one_new _ _ _) (by intro u hu; simp at hu; subst hu; rfl) (by omega) (by unfold maxLen; omega) (by omega) (by have := (BKR.out).lt; simp; omega) (wr.heap.size + 1) (by simp) ?_)
      intro g1 q1 w1 hown1 hgrow1 hat1 hlt1
      have bk2 := (BKR.out).list_step hgrow1 hown1 hat1 hlt1 hQr (ROOM.out)
      obtain ⟨x0, x1, x2, x3⟩ := (BKR.out).grown hgrow1 (BKR.out).lvb
      have kp1 := hide (Kp.step (p := p) (i := 0) (u := .slice (some ⟨g1, 0, none⟩) (rv.length + 1) q1) hgrow1 (BKR.out).lvb)
      have sz1 := hide (show wr.heap.size + 1 ≤ w1.heap.size by have := hgrow1.size; simpa using this)
      have A1 := hide hat1
      have BK2 := hide bk2
      obtain ⟨y0, y1, y2, y3⟩ := bk2.facts
      clear hgrow1 hown1 hat1 bk2 m0 m1 m2 m3
      go_wp2_with (at_builtin; refine wpList_append_lies _ rfl (.tmp 48) (.tmp 50) 22 rfl Q 47 j1 (.int .u32 0) 1 4 Try.underlying22 hj1 jz0 jz1 jz2 rfl (by decide) (.slice am rv.length cm) rv.length (bmks rv.length) rfl (BK2.out.marks.alloc _) ⟨w1.heap.size, 0, none⟩ 1 1 [bmk rv.length] rfl rfl (cell_new_at (by simp [World.setCell]) (bmk rv.length) _) (by intro u hu; simp at hu; subst hu; rfl) (by omega) (by unfold maxLen; omega) (by omega) (by have := BK2.out.lt; have := sz1.out; simp [World.setCell]; omega) (w1.heap.size + 1) (by simp [World.setCell]) ?_)
      intro g2 q2 w3 hown2 hgrow2 hat2 hlt2
      have hsz2 : (w1.setCell ⟨p, 0, none⟩ (.slice (some ⟨g1, 0, none⟩) (rv.length + 1) q1)).heap.size = w1.heap.size := by simp [World.setCell]
      have bk3 := BK2.out.mark_step hgrow2 hown2 (by rw [hsz2]; exact hat2) hlt2 (by rw [hsz2]; have := sz1.out; omega)
      obtain ⟨v0, v1, v2, v3⟩ := BK2.out.grown hgrow2 BK2.out.mvb
      have kp2 := Kp.step (p := p) (i := 1) (u := .slice (some ⟨g2, 0, none⟩) (rv.length + 1) q2) hgrow2 BK2.out.mvb
      have F : Hid (OwnS w (w3.setCell ⟨p, 1, none⟩ (.slice (some ⟨g2, 0, none⟩) (rv.length + 1) q2)) p Q bs rv.length (some ⟨g, off, none⟩)) := by
        refine ⟨g2 :: g1 :: ([g] ++ bs), rv ++ [.slice (some ⟨g, off, none⟩) cap cap], .slice (some ⟨g1, 0, none⟩) (rv.length + 1) q1, .slice (some ⟨g2, 0, none⟩) (rv.length + 1) q2, ?_, ?_, ?_, ?_⟩
        · simp
        · rw [show (rv ++ [Value.slice (some ⟨g, off, none⟩) cap cap]).length = rv.length + 1 by simp]
          exact bk3
        · exact (kp0.out.trans (kp1.out.trans kp2 (fun j hj => List.mem_cons_of_mem _ hj)) (fun j hj => List.mem_cons_of_mem _ hj)).trans (Kp.refl _ _ _) (fun j hj => List.mem_cons_of_mem _ hj)
        · intro j hj
          have s1 := sz1.out
          rcases List.mem_cons.1 hj with e | hj
          · subst e
            rcases hat2 with e' | e'
            · exact HBS.out j ((BKR.out).mvb j e')
            · right; left; have := SZR.out; omega
          · rcases List.mem_cons.1 hj with e | hj
            · subst e
              rcases A1.out with e' | e'
              · exact HBS.out j ((BKR.out).lvb j e')
              · right; left; have := SZR.out; omega
            · exact HBS.out j hj
      clear hgrow2 hown2 hat2 bk3 kp2 x0 x1 x2 x3 y0 y1 y2 y3
      go_wp2
      go_ret
      exact ⟨rfl, F.out⟩

set_option maxRecDepth 20000 in
set_option maxHeartbeats 1000000 in
theorem own_big (w : World) (p Q : Nat) (bs : List Nat) (rv : List Value) (lv mv : Value) (hk : Bk w p Q bs rv rv.length lv mv) (hr : rv.length ≤ 1000) (hQ : Q ≤ w.heap.size) (g off n cap : Nat) (cur : Array Value) (hh : w.heap[g]? = some (.cells cur 47 (0, 0))) (hsz : off + cap ≤ cur.size) (hgb : g ∉ bs) (hgQ : Q ≤ g) (_hn : n ≤ cap) (hcm : cap ≤ 9223372036854775807) (h4 : 4096 < cap) :
    Calls Try.prog 42 #[.pointer (some ⟨p, 0, none⟩), .slice (some ⟨g, off, none⟩) n cap] w fun e w' => e = .returned (.bool true) ∧ OwnS w w' p Q bs rv.length (some ⟨g, off, none⟩) := by
  obtain ⟨i1, hi1, iz0, iz1, iz2⟩ := info_parts infoL
  obtain ⟨j1, hj1, jz0, jz1, jz2⟩ := info_parts info32
  obtain ⟨al, cl, rfl, al1, al2⟩ := owns_shape hk.lists
  obtain ⟨am, cm, rfl, am1, am2⟩ := owns_shape hk.marks
  obtain ⟨k0, k1, k2, k3⟩ := hk.facts
  have HH := hide hh
  have HSZ := hide hsz
  have hpg : p ≠ g := fun e => by have h1 := hk.here; rw [e, hh] at h1; simp at h1
  clear hh hsz
  go_enter Try.func42, Try.ntmps42
  go_wp2
  go_loopw [7] (fun iv wr => ∃ (k : Nat) (cur' : Array Value), k ≤ 4096 ∧ iv = .int .i64 k ∧ Wr w wr g cur' 47 ∧ cur'.size = cur.size ∧ ∀ i, i < k → cur'[off + i]? = some (bmk rv.length)) (fun iv _ => 4096 - (intOf iv).toNat)
  case atStart => exact ⟨0, cur, Nat.zero_le _, rfl, Wr.refl HH.out, rfl, fun i hi => by omega⟩
  case round =>
    obtain ⟨k, cur', hkn, rfl, hwr, hcs, hfill⟩ := hrel
    by_cases hlt : k < 4096
    · have hb : off + k < cur'.size := by have := HSZ.out; omega
      have old : cur'[off + k]? = some cur'[off + k] := Array.getElem?_eq_getElem hb
      have co : wr.cell? ⟨g, off + k, none⟩ = some cur'[off + k] := by rw [cell_of_row wr g (off + k) cur' _ (0, 0) hwr.here]; exact old
      have fo := hwr.free (off + k)
      have dA : (k : Int) < ((4096 : Nat) : Int) := by omega
      have dC : (k : Int) < ((cap : Nat) : Int) := by omega
      have HW' := hide (hwr.set (off + k) (bmk rv.length))
      have HC' : Hid ((cur'.setIfInBounds (off + k) (bmk rv.length)).size = cur.size) := by show _ = _; rw [Array.size_setIfInBounds]; exact hcs
      have HF' : Hid (∀ i, i < k + 1 → (cur'.setIfInBounds (off + k) (bmk rv.length))[off + i]? = some (bmk rv.length)) := by
        intro i hi
        rw [Array.getElem?_setIfInBounds]
        by_cases e : off + k = off + i
        · rw [if_pos e, if_pos (by omega)]
        · rw [if_neg e]
          exact hfill i (by omega)
      clear hwr hcs hfill old
      generalize cur'[off + k] = u9 at co
      go_wp2
      go_roundw
      case rel => exact ⟨k + 1, _, by omega, by go_num, HW'.out, HC'.out, HF'.out⟩
      case measure => simp [intOf]; omega
    · have hkn' : 4096 = k := by omega
      subst hkn'
      have dA : ¬ ((4096 : Nat) : Int) < ((4096 : Nat) : Int) := by omega
      have bkr := (hk.kept (hwr.other p hpg) (fun j hj => hwr.other j (fun e => hgb (e ▸ hj))) (by rw [hwr.size]; exact Nat.le_refl _)).more (gs := [g]) (fun j hj => by simp at hj; subst hj; rw [hwr.size]; exact ⟨by omega, lt_of_heap HH.out⟩) (by simpa using hpg)
      have room : RoomOk wr ([g] ++ bs) (.slice al rv.length cl) (.slice am rv.length cm) rv.length (.slice (some ⟨g, off, none⟩) 4096 cap) := ⟨_, _, _, rfl, by omega, by omega, by omega, .inr ⟨g, off, rfl, by simp, fun e => hgb (hk.lvb _ e), fun e => hgb (hk.mvb _ e), fun i hi => by rw [cell_of_row wr g (off + i) cur' _ (0, 0) hwr.here]; exact hfill i hi⟩⟩
      have kp0 : Hid (Kp w wr p ([g] ++ bs)) := Kp.of_wr hwr (by simp)
      have szr : w.heap.size ≤ wr.heap.size := by rw [hwr.size]; exact Nat.le_refl _
      have hQr : Q ≤ wr.heap.size := by omega
      have hbs : ∀ j, j ∈ [g] ++ bs → j ∈ bs ∨ w.heap.size ≤ j ∨ ∃ off', some (⟨g, off, none⟩ : Addr) = some ⟨j, off', none⟩ := by
        intro j hj
        rcases List.mem_append.1 hj with e | e
        · simp at e; subst e; exact .inr (.inr ⟨off, rfl⟩)
        · exact .inl e
      obtain ⟨m0, m1, m2, m3⟩ := bkr.facts
      have BKR := hide bkr
      have ROOM := hide room
      have HBS := hide hbs
      have SZR := hide szr
      clear hwr hcs hfill bkr room hbs k0 k1 k2 k3
      go_wp2_with (at_builtin; refine wpList_append_lies _ rfl (.tmp 38) (.tmp 40) 34 rfl Q 22 i1 (.slice none 0 0) 1 24 Try.underlying34 hi1 iz0 iz1 iz2 rfl (by decide) (.slice al rv.length cl) rv.length rv rfl ((BKR.out).lists.alloc _) ⟨wr.heap.size, 0, none⟩ 1 1 [.slice (some ⟨g, off, none⟩) 4096 cap] rfl rfl (cell_one_new _ _ _) (by intro u hu; simp at hu; subst hu; rfl) (by omega) (by unfold maxLen; omega) (by omega) (by have := (BKR.out).lt; simp; omega) (wr.heap.size + 1) (by simp) ?_)
      intro g1 q1 w1 hown1 hgrow1 hat1 hlt1
      have bk2 := (BKR.out).list_step hgrow1 hown1 hat1 hlt1 hQr (ROOM.out)
      obtain ⟨x0, x1, x2, x3⟩ := (BKR.out).grown hgrow1 (BKR.out).lvb
      have kp1 := hide (Kp.step (p := p) (i := 0) (u := .slice (some ⟨g1, 0, none⟩) (rv.length + 1) q1) hgrow1 (BKR.out).lvb)
      have sz1 := hide (show wr.heap.size + 1 ≤ w1.heap.size by have := hgrow1.size; simpa using this)
      have A1 := hide hat1
      have BK2 := hide bk2
      obtain ⟨y0, y1, y2, y3⟩ := bk2.facts
      clear hgrow1 hown1 hat1 bk2 m0 m1 m2 m3
      go_wp2_with (at_builtin; refine wpList_append_lies _ rfl (.tmp 48) (.tmp 50) 22 rfl Q 47 j1 (.int .u32 0) 1 4 Try.underlying22 hj1 jz0 jz1 jz2 rfl (by decide) (.slice am rv.length cm) rv.length (bmks rv.length) rfl (BK2.out.marks.alloc _) ⟨w1.heap.size, 0, none⟩ 1 1 [bmk rv.length] rfl rfl (cell_new_at (by simp [World.setCell]) (bmk rv.length) _) (by intro u hu; simp at hu; subst hu; rfl) (by omega) (by unfold maxLen; omega) (by omega) (by have := BK2.out.lt; have := sz1.out; simp [World.setCell]; omega) (w1.heap.size + 1) (by simp [World.setCell]) ?_)
      intro g2 q2 w3 hown2 hgrow2 hat2 hlt2
      have hsz2 : (w1.setCell ⟨p, 0, none⟩ (.slice (some ⟨g1, 0, none⟩) (rv.length + 1) q1)).heap.size = w1.heap.size := by simp [World.setCell]
      have bk3 := BK2.out.mark_step hgrow2 hown2 (by rw [hsz2]; exact hat2) hlt2 (by rw [hsz2]; have := sz1.out; omega)
      obtain ⟨v0, v1, v2, v3⟩ := BK2.out.grown hgrow2 BK2.out.mvb
      have kp2 := Kp.step (p := p) (i := 1) (u := .slice (some ⟨g2, 0, none⟩) (rv.length + 1) q2) hgrow2 BK2.out.mvb
      have F : Hid (OwnS w (w3.setCell ⟨p, 1, none⟩ (.slice (some ⟨g2, 0, none⟩) (rv.length + 1) q2)) p Q bs rv.length (some ⟨g, off, none⟩)) := by
        refine ⟨g2 :: g1 :: ([g] ++ bs), rv ++ [.slice (some ⟨g, off, none⟩) 4096 cap], .slice (some ⟨g1, 0, none⟩) (rv.length + 1) q1, .slice (some ⟨g2, 0, none⟩) (rv.length + 1) q2, ?_, ?_, ?_, ?_⟩
        · simp
        · rw [show (rv ++ [Value.slice (some ⟨g, off, none⟩) 4096 cap]).length = rv.length + 1 by simp]
          exact bk3
        · exact (kp0.out.trans (kp1.out.trans kp2 (fun j hj => List.mem_cons_of_mem _ hj)) (fun j hj => List.mem_cons_of_mem _ hj)).trans (Kp.refl _ _ _) (fun j hj => List.mem_cons_of_mem _ hj)
        · intro j hj
          have s1 := sz1.out
          rcases List.mem_cons.1 hj with e | hj
          · subst e
            rcases hat2 with e' | e'
            · exact HBS.out j ((BKR.out).mvb j e')
            · right; left; have := SZR.out; omega
          · rcases List.mem_cons.1 hj with e | hj
            · subst e
              rcases A1.out with e' | e'
              · exact HBS.out j ((BKR.out).lvb j e')
              · right; left; have := SZR.out; omega
            · exact HBS.out j hj
      clear hgrow2 hown2 hat2 bk3 kp2 x0 x1 x2 x3 y0 y1 y2 y3
      go_wp2
      go_ret
      exact ⟨rfl, F.out⟩

/-- An answer of a call: a list without limbs 0 on top, worth x; its room lies in a block from B on, below T. -/
structure Fr (B T : Nat) (w : World) (ao : Option Addr) (cap : Nat) (rs : List Int) (x : Int) : Prop where
  ow : Ow B w (.slice ao rs.length cap) rs
  canon : Canon rs
  val : val rs = x
  lies : 0 < cap → ∀ g off, ao = some ⟨g, off, none⟩ → B ≤ g ∧ g < T

theorem Ow.sl' {B : Nat} {w : World} {ao : Option Addr} {n cap : Nat} {zs : List Int} (h : Ow B w (.slice ao n cap) zs) : n = zs.length ∧ zs.length ≤ cap ∧ cap ≤ 9223372036854775807 ∧ (cap = 0 ∨ ∃ g off cur, ao = some ⟨g, off, none⟩ ∧ B ≤ g ∧ w.heap[g]? = some (.cells cur 47 (0, 0)) ∧ off + cap ≤ cur.size ∧ At cur .u32 off zs) := by
  obtain ⟨ao', cap', hv, h1, h2, h3, h4⟩ := h
  obtain ⟨rfl, rfl, rfl⟩ := (Value.slice.injEq .. ▸ hv)
  exact ⟨rfl, h1, h2, h4⟩

theorem Is.fr {B : Nat} {w : World} {v : Value} {x : Int} (h : Is B w v x) : ∃ ao cap rs, v = .slice ao rs.length cap ∧ Fr B w.heap.size w ao cap rs x := by
  obtain ⟨rs, ho, hc, hv⟩ := h
  obtain ⟨ao, cap, rfl, h1, h2, h3, h4⟩ := ho
  refine ⟨ao, cap, rs, rfl, ⟨ao, cap, rfl, h1, h2, h3, h4⟩, hc, hv, ?_⟩
  intro h0 g off e
  rcases h4 with h4 | ⟨g', off', cur, e', hB, hh, _⟩
  · omega
  · rw [e'] at e
    simp only [Option.some.injEq, Addr.mk.injEq, and_true] at e
    have := lt_of_heap hh
    omega

theorem Fr.got {B T : Nat} {w : World} {ao : Option Addr} {cap : Nat} {rs : List Int} {x : Int} (h : Fr B T w ao cap rs x) : Got w ao cap rs x := ⟨h.ow.sl, h.canon, h.val⟩

theorem Fr.kept {B T : Nat} {w w' : World} {ao : Option Addr} {cap : Nat} {rs : List Int} {x : Int} (h : Fr B T w ao cap rs x) (hk : ∀ g, g < w.heap.size → B ≤ g → g < T → w'.heap[g]? = w.heap[g]?) : Fr B T w' ao cap rs x := by
  obtain ⟨ho, hc, hv, hl⟩ := h
  refine ⟨?_, hc, hv, hl⟩
  obtain ⟨ao', cap', hv', h1, h2, h3, h4⟩ := ho
  obtain ⟨rfl, _, rfl⟩ := (Value.slice.injEq .. ▸ hv')
  refine ⟨ao, cap, rfl, h1, h2, h3, ?_⟩
  rcases h4 with h4 | ⟨g, off, cur, rfl, hB, hh, r⟩
  · exact .inl h4
  · by_cases h0 : 0 < cap
    · have := hl h0 g off rfl
      exact .inr ⟨g, off, cur, rfl, hB, (hk g (lt_of_heap hh) this.1 this.2).trans hh, r⟩
    · exact .inl (by omega)

theorem Fr.below {B T : Nat} {w w' : World} {ao : Option Addr} {cap : Nat} {rs : List Int} {x : Int} (h : Fr B T w ao cap rs x) (hb : Below w.heap.size w w') : Fr B T w' ao cap rs x := h.kept fun g hg _ _ => hb.block g hg

theorem Fr.touch {B T L : Nat} {w w' : World} {ao : Option Addr} {cap : Nat} {rs : List Int} {x : Int} (h : Fr B T w ao cap rs x) (t : Touch w w' L) (hL : L < B ∨ T ≤ L) : Fr B T w' ao cap rs x := h.kept fun g hg h1 h2 => t.other g hg (by omega)

theorem Fr.kp {B T p : Nat} {bs : List Nat} {w w' : World} {ao : Option Addr} {cap : Nat} {rs : List Int} {x : Int} (h : Fr B T w ao cap rs x) (k : Kp w w' p bs) (hp : p < B ∨ T ≤ p) (hb : ∀ j, j ∈ bs → j < B ∨ T ≤ j) : Fr B T w' ao cap rs x :=
  h.kept fun g hg h1 h2 => k.other g hg (by omega) (fun hj => by have := hb g hj; omega)

/-- The book at block p holds n lists; all its memory but p are the blocks bs, from Q on. -/
def Bs (w : World) (p Q : Nat) (bs : List Nat) (n : Nat) : Prop := ∃ rv lv mv, rv.length = n ∧ Bk w p Q bs rv rv.length lv mv

theorem Bs.below {w w' : World} {p Q n : Nat} {bs : List Nat} (h : Bs w p Q bs n) (hb : Below w.heap.size w w') : Bs w' p Q bs n := by
  obtain ⟨rv, lv, mv, e, hk⟩ := h
  exact ⟨rv, lv, mv, e, hk.below hb⟩

theorem Bs.touch {w w' : World} {p Q n L : Nat} {bs : List Nat} (h : Bs w p Q bs n) (t : Touch w w' L) (h1 : p ≠ L) (h2 : L ∉ bs) : Bs w' p Q bs n := by
  obtain ⟨rv, lv, mv, e, hk⟩ := h
  exact ⟨rv, lv, mv, e, hk.touch t h1 h2⟩

theorem Bs.low {w : World} {p Q n : Nat} {bs : List Nat} (h : Bs w p Q bs n) : ∀ j, j ∈ bs → Q ≤ j ∧ j < w.heap.size := by
  obtain ⟨rv, lv, mv, e, hk⟩ := h
  exact hk.low

theorem Bs.lt {w : World} {p Q n : Nat} {bs : List Nat} (h : Bs w p Q bs n) : p ∉ bs ∧ p < w.heap.size := by
  obtain ⟨rv, lv, mv, e, hk⟩ := h
  exact ⟨hk.pQ, hk.lt⟩

/-- A new book. -/
theorem Bs.new {w : World} {p Q : Nat} (h : w.heap[p]? = some (.cells #[.slice none 0 0, .slice none 0 0] 36 (0, 0))) : Bs w p Q [] 0 := by
  refine ⟨[], .slice none 0 0, .slice none 0 0, rfl, h, ⟨rfl, .inl ⟨rfl, rfl⟩⟩, ⟨rfl, .inl ⟨rfl, rfl⟩⟩, ?_, ?_, ?_, ?_, ?_, by simp⟩
  · intro j hj; simp [Value.ownBlock] at hj
  · intro j hj; simp [Value.ownBlock] at hj
  · intro j hj; simp [Value.ownBlock] at hj
  · intro i u hu; simp at hu
  · intro j hj; cases hj

theorem own_b (w : World) (p Q n : Nat) (bs : List Nat) (hb : Bs w p Q bs n) (hn : n ≤ 1000) (B T : Nat) (ao : Option Addr) (cap : Nat) (rs : List Int) (x : Int) (h : Fr B T w ao cap rs x) (hQB : Q ≤ B) (hQ : Q ≤ w.heap.size) (hd : ∀ j, j ∈ bs → j < B ∨ T ≤ j) :
    Calls Try.prog 42 #[.pointer (some ⟨p, 0, none⟩), .slice ao rs.length cap] w fun e w' => e = .returned (.bool true) ∧ ∃ bs', Bs w' p Q bs' (n + 1) ∧ Kp w w' p bs' ∧ ∀ j, j ∈ bs' → j ∈ bs ∨ w.heap.size ≤ j ∨ (B ≤ j ∧ j < T) := by
  obtain ⟨rv, lv, mv, rfl, hk⟩ := hb
  obtain ⟨_, h1, h2, h4⟩ := h.ow.sl'
  have hr := hn
  by_cases h0 : 0 < cap
  · rcases h4 with h4 | ⟨g, off, cur, rfl, hB, hh, hs, ha⟩
    · omega
    have hl := h.lies h0 g off rfl
    have hgb : g ∉ bs := fun hj => by have := hd g hj; omega
    have fin : ∀ w', OwnS w w' p Q bs rv.length (some ⟨g, off, none⟩) → ∃ bs', Bs w' p Q bs' (rv.length + 1) ∧ Kp w w' p bs' ∧ ∀ j, j ∈ bs' → j ∈ bs ∨ w.heap.size ≤ j ∨ (B ≤ j ∧ j < T) := by
      rintro w' ⟨bs', rv', lv', mv', e, hk', kp, hj⟩
      refine ⟨bs', ⟨rv', lv', mv', e, hk'⟩, kp, fun j hj' => ?_⟩
      rcases hj j hj' with a | a | ⟨off', a⟩
      · exact .inl a
      · exact .inr (.inl a)
      · simp only [Option.some.injEq, Addr.mk.injEq] at a
        obtain ⟨rfl, _⟩ := a
        exact .inr (.inr hl)
    by_cases hc : cap ≤ 4096
    · exact (own_small w p Q bs rv lv mv hk hr hQ g off rs.length cap cur hh hs hgb (by omega) h1 h2 hc).mono fun e w' ⟨a, b⟩ => ⟨a, fin w' b⟩
    · exact (own_big w p Q bs rv lv mv hk hr hQ g off rs.length cap cur hh hs hgb (by omega) h1 h2 (by omega)).mono fun e w' ⟨a, b⟩ => ⟨a, fin w' b⟩
  · have hc0 : cap = 0 := by omega
    have hl0 : rs.length = 0 := by omega
    have fin : ∀ w', OwnS w w' p Q bs rv.length none → ∃ bs', Bs w' p Q bs' (rv.length + 1) ∧ Kp w w' p bs' ∧ ∀ j, j ∈ bs' → j ∈ bs ∨ w.heap.size ≤ j ∨ (B ≤ j ∧ j < T) := by
      rintro w' ⟨bs', rv', lv', mv', e, hk', kp, hj⟩
      refine ⟨bs', ⟨rv', lv', mv', e, hk'⟩, kp, fun j hj' => ?_⟩
      rcases hj j hj' with a | a | ⟨off', a⟩
      · exact .inl a
      · exact .inr (.inl a)
      · cases a
    rw [hl0, hc0]
    cases ao with
    | none => exact (own_zero_a w p Q bs rv lv mv hk hr hQ).mono fun e w' ⟨a, b⟩ => ⟨a, fin w' b⟩
    | some ad => exact (own_zero_b w p Q bs rv lv mv hk hr hQ ad).mono fun e w' ⟨a, b⟩ => ⟨a, fin w' b⟩

/-- Blocks from before w0 but for p stay, whatever comes behind. -/
theorem Touch.newer {w0 w w' : World} {p L : Nat} (h : Touch w0 w p) (t : Touch w w' L) (hL : w0.heap.size ≤ L) : Touch w0 w' p :=
  ⟨t.os.trans h.os, t.tape.trans h.tape, t.output.trans h.output, Nat.le_trans h.size t.size, fun k hk hn => (t.other k (Nat.lt_of_lt_of_le hk h.size) (by omega)).trans (h.other k hk hn)⟩

theorem Touch.calm {w0 w w' : World} {p : Nat} (h : Touch w0 w p) (hb : Below w.heap.size w w') : Touch w0 w' p := h.trans (.of_below hb)

theorem Touch.kp {w0 w w' : World} {p : Nat} {bs : List Nat} (h : Touch w0 w p) (k : Kp w w' p bs) (hb : ∀ j, j ∈ bs → w0.heap.size ≤ j) : Touch w0 w' p :=
  ⟨k.os.trans h.os, k.tape.trans h.tape, k.output.trans h.output, Nat.le_trans h.size k.size, fun j hj hn => (k.other j (Nat.lt_of_lt_of_le hj h.size) hn (fun hm => by have := hb j hm; omega)).trans (h.other j hj hn)⟩

theorem Touch.refl (w : World) (p : Nat) : Touch w w p := ⟨rfl, rfl, rfl, Nat.le_refl _, fun _ _ _ => rfl⟩

end Lm
end Go.Proofs.Ythbomfboohjcfad
