/-
  Package matrix: what left makes of a number. Package matrix: left. Package matrix: what take makes of a number. As Tail, where the last operations wait for those ahead by others that they wait for. A region that draws, in which one operation writes a block that stood already; its last operations wait for all ahead of them. Determinants, as forms on lists of columns. No program is named here. Rows that are gathered, and echelon forms: each row space has just one. No program is named here. Rows that are multiples of one another have one canonical row; how many limbs a number has. slices.IndexFunc and ContainsFunc of whole numbers and of rows; matrix.long. whole.Of in memory of its own. Small rows; rows held against one another by worth. A place among so many, out of any int.
-/
import Derived.Test.YtodgiglhconkoaaMZsLawZ1
namespace Go.Proofs.Ytodgiglhconkoaa
namespace Lm
open Go Go.RowKit
theorem isrow_lt' {w : World} {v : Value} {zs : List Int} {L : Nat} (h : IsRow w v zs L) : ∀ z ∈ zs, (z.natAbs : Int) < pw L := by
  intro z hz
  obtain ⟨k, hk⟩ := List.mem_iff_getElem?.1 hz
  obtain ⟨ao, cap, rfl, _⟩ := h.parts
  obtain ⟨b, off, ng, a, m, c, _, _, _, _, hw⟩ := h.cell hk
  exact isw_lt hw
def lstep (zs : List Int) (c : Nat) (s : Int) (e : Nat × List Int) : Int := s - zs.getD e.1 0 * e.2.getD c 0
def lft (lead : Int) (zs : List Int) (P : List Nat) (rows : List (List Int)) (c : Nat) (x : Int) : Int := if c ∈ P then 0 else (P.zip rows).foldl (lstep zs c) (lead * x)
theorem lpart_lt {L : Nat} {lead x : Int} {zs : List Int} {c : Nat} (hl : (lead.natAbs : Int) < pw L) (hx : (x.natAbs : Int) < pw L) (hz : ∀ z ∈ zs, (z.natAbs : Int) < pw L) : ∀ (es : List (Nat × List Int)), (∀ e ∈ es, ∀ y ∈ e.2, (y.natAbs : Int) < pw L) → es.length ≤ 4000000 → ((es.foldl (lstep zs c) (lead * x)).natAbs : Int) < pw (L + L + 1) := by
  intro es he hn
  have hp : pw (L + L) = pw L * pw L := pw_add L L
  have h0 := pw_pos' L
  have hG : ∀ (l : List Int) (k : Nat), (∀ y ∈ l, (y.natAbs : Int) < pw L) → ((l.getD k 0).natAbs : Int) < pw L := by
    intro l k hl
    rw [List.getD_eq_getElem?_getD]
    cases h : l[k]? with
    | none => simpa using h0
    | some y => exact hl y (List.mem_of_getElem? h)
  have hM : ∀ u v : Int, (u.natAbs : Int) < pw L → (v.natAbs : Int) < pw L → ((u * v).natAbs : Int) ≤ pw L * pw L := by
    intro u v hu hv
    rw [Int.natAbs_mul, Int.natCast_mul]
    exact Int.mul_le_mul (by omega) (by omega) (by omega) (by omega)
  have key : ∀ (es : List (Nat × List Int)) (s : Int) (m : Nat), (∀ e ∈ es, ∀ y ∈ e.2, (y.natAbs : Int) < pw L) → (s.natAbs : Int) ≤ m * (pw L * pw L) → ((es.foldl (lstep zs c) s).natAbs : Int) ≤ ((m + es.length : Nat) : Int) * (pw L * pw L) := by
    intro es
    induction es with
    | nil => intro s m _ h; simpa using h
    | cons e es ih =>
      intro s m he h
      rw [List.foldl_cons, List.length_cons]
      have h1 := ih (lstep zs c s e) (m + 1) (fun e' h' => he e' (by simp [h'])) (by
        have h2 := hM _ _ (hG zs e.1 hz) (hG e.2 c (he e (by simp)))
        have h3 : ((lstep zs c s e).natAbs : Int) ≤ (s.natAbs : Int) + ((zs.getD e.1 0 * e.2.getD c 0).natAbs : Int) := by unfold lstep; omega
        rw [Int.natCast_add, Int.add_mul]
        omega)
      rw [show m + (es.length + 1) = m + 1 + es.length by omega]
      exact h1
  have h1 := key es (lead * x) 1 he (by have := hM lead x hl hx; omega)
  rw [show pw (L + L + 1) = 4294967296 * pw (L + L) from rfl, hp]
  have h2 : ((1 + es.length : Nat) : Int) * (pw L * pw L) ≤ 4000001 * (pw L * pw L) := Int.mul_le_mul_of_nonneg_right (by omega) (Int.mul_nonneg (by omega) (by omega))
  have h3 : 0 < pw L * pw L := Int.mul_pos h0 h0
  omega
theorem mem_cast (c : Nat) (P : List Nat) : ((c : Int) ∈ P.map (fun p : Nat => (p : Int))) ↔ c ∈ P := by
  simp only [List.mem_map]
  constructor
  · rintro ⟨u, h, e⟩
    obtain rfl : u = c := by omega
    exact h
  · exact fun h => ⟨c, h, rfl⟩
theorem w2_end {n f K M : Nat} {w V : World} {z : Int} {ng ng' : Bool} {a a' : Option Addr} {m m' c c' : Nat} (hf : n ≤ f) (h : V.heap[f]? = some (.cells #[.bool ng', .slice a' m' c'] 30 (0, 0))) (hb : Below n w V) (ho : FrW K z M (.agg #[.bool ng, .slice a m c]) V) : FrW K z M (.agg #[.bool ng, .slice a m c]) ((V.setCell ⟨f, 0, none⟩ (.bool ng)).setCell ⟨f, 1, none⟩ (.slice a m c)) ∧ Below n w ((V.setCell ⟨f, 0, none⟩ (.bool ng)).setCell ⟨f, 1, none⟩ (.slice a m c)) ∧ (loadVar 30 ⟨f, 0, none⟩).run Try.prog ((V.setCell ⟨f, 0, none⟩ (.bool ng)).setCell ⟨f, 1, none⟩ (.slice a m c)) = .ok (.agg #[.bool ng, .slice a m c]) ((V.setCell ⟨f, 0, none⟩ (.bool ng)).setCell ⟨f, 1, none⟩ (.slice a m c)) :=
  ⟨ho.ru (ru_w2 h _ _), (hb.setCell hf _).setCell hf _, lvw2 (set_w2 h _ _)⟩
set_option maxRecDepth 20000 in
set_option maxHeartbeats 8000000 in
theorem mleft1_aux (W : World) (g0 : Nat) (hg0 : W.heap.size = g0) (c : Nat) (x lead : Int) (xv vr : Value) (g1 g2 q n L M : Nat) (zs : List Int) (P : List Nat) (rows : List (List Int)) (h1 : W.heap[g1]? = some (.cells #[.pointer (some ⟨q, 0, none⟩)] 81 (0, 0))) (h2 : W.heap[g2]? = some (.cells #[vr] 27 (0, 0))) (hr : IsRow W vr zs L) (hB : Bas W q P rows lead L) (hx : IsW x L xv W) (hzn : zs.length = n) (hcn : c < n) (hrn : ∀ r ∈ rows, r.length = n) (hP : ∀ p ∈ P, p < n) (hPl : P.length = rows.length) (hPm : P.length ≤ 100000) (hL : L ≤ 100000) (hM : ((lft lead zs P rows c x).natAbs : Int) < pw M) :
    Calls Try.prog 55 #[.int .i64 (c : Int), xv, .pointer (some ⟨g1, 0, none⟩), .pointer (some ⟨g2, 0, none⟩)] W fun e W' => ∃ v, e = .returned v ∧ FrW g0 (lft lead zs P rows c x) M v W' ∧ Below g0 W W' := by
  obtain ⟨nx, ax, mx, cx, xs, rfl, _⟩ := id hx
  obtain ⟨rv, pv, lng, la, lm, lc, hbq, hMr, hPr, hLd⟩ := hB
  obtain ⟨pa, pc, rfl, hPz⟩ := hPr.parts
  obtain ⟨ma, mc, rfl, hMz⟩ := hMr.parts
  obtain ⟨ra, rc, rfl, _⟩ := hr.parts
  have hb5 : Below W.heap.size W ((W.alloc (.cells #[.bool nx, .slice ax mx cx] 30)).alloc (.cells #[.bool false, .slice none 0 0] 30)) := by (repeat' (first | (with_reducible exact Below.refl _ _) | (with_reducible assumption) | (with_reducible refine gdrewN ?_ _) | (with_reducible refine Below.alloc ?_ ?_ _) | (with_reducible refine Below.drew ?_) | (with_reducible refine Below.setCell ?_ ?_ _) | go_size))
  have hx5 : ((W.alloc (.cells #[.bool nx, .slice ax mx cx] 30)).alloc (.cells #[.bool false, .slice none 0 0] 30)).heap[W.heap.size]? = some (.cells #[.bool nx, .slice ax mx cx] 30 (0, 0)) := alloc_keep (heap_alloc_new W _)
  have hz5 : ((W.alloc (.cells #[.bool nx, .slice ax mx cx] 30)).alloc (.cells #[.bool false, .slice none 0 0] 30)).heap[W.heap.size + 1]? = some (.cells #[.bool false, .slice none 0 0] 30 (0, 0)) := by
    have := heap_alloc_new (W.alloc (.cells #[.bool nx, .slice ax mx cx] 30)) (.cells #[.bool false, .slice none 0 0] 30)
    simpa using this
  have hs5 : ((W.alloc (.cells #[.bool nx, .slice ax mx cx] 30)).alloc (.cells #[.bool false, .slice none 0 0] 30)).heap.size = W.heap.size + 2 := by simp
  have HLDb : Hid ((lead.natAbs : Int) < pw L) := isw_lt hLd
  have HXb : Hid ((x.natAbs : Int) < pw L) := isw_lt hx
  have HZb : Hid (∀ z ∈ zs, (z.natAbs : Int) < pw L) := isrow_lt' hr
  have HRb : Hid (∀ r ∈ rows, ∀ y ∈ r, (y.natAbs : Int) < pw L) := (fun r hr' => by
    obtain ⟨i, hi⟩ := List.mem_iff_getElem?.1 hr'
    obtain ⟨_, _, u, _, _, _, hu⟩ := hMr.cell hi
    exact isrow_lt' hu)
  have HXW := hide (hx.ru (Ru.of_below hb5))
  have HLD := hide (hLd.ru (Ru.of_below hb5))
  have HRW := hide (hr.below hb5)
  have HMR := hide (hMr.below hb5)
  have HPR := hide (hPr.below hb5)
  have HBQ := hide ((hb5.block _ (lt_of_heap hbq)).trans hbq)
  have HG1 := hide ((hb5.block _ (lt_of_heap h1)).trans h1)
  have HG2 := hide ((hb5.block _ (lt_of_heap h2)).trans h2)
  have HPl := hide (And.intro hPl (And.intro hP (And.intro hrn hzn)))
  have HM := hide hM
  clear h1 h2 hr hx hbq hMr hPr hLd hPl hP hrn hM
  go_enter Try.func55, Try.ntmps55
  go_upto_region 1 with fail
  generalize (W.alloc (.cells #[.bool nx, .slice ax mx cx] 30)).alloc (.cells #[.bool false, .slice none 0 0] 30) = w5 at *
  rw [hg0] at hx5 hz5 hb5 hs5
  have HX5 := hide hx5
  have HZ5 := hide hz5
  have HB5 := hide hb5
  have c1 : w5.cell? ⟨g1, 0, none⟩ = some (.pointer (some ⟨q, 0, none⟩)) := by rw [cell_of_row _ _ _ _ _ (0, 0) HG1.out]; rfl
  have c2 : w5.cell? ⟨g2, 0, none⟩ = some (.slice ra zs.length rc) := by rw [cell_of_row _ _ _ _ _ (0, 0) HG2.out]; rfl
  have b0 : w5.cell? ⟨q, 0, none⟩ = some (.slice ma rows.length mc) := by rw [cell_of_row _ _ _ _ _ (0, 0) HBQ.out]; rfl
  have b1 : w5.cell? ⟨q, 1, none⟩ = some (.slice pa P.length pc) := by rw [cell_of_row _ _ _ _ _ (0, 0) HBQ.out]; rfl
  have b2 : w5.cell? ⟨q, 2, none⟩ = some (.bool lng) := by rw [cell_of_row _ _ _ _ _ (0, 0) HBQ.out]; rfl
  have b3 : w5.cell? ⟨q, 2 + 1, none⟩ = some (.slice la lm lc) := by rw [cell_of_row _ _ _ _ _ (0, 0) HBQ.out]; rfl
  have hg1 := lt_of_heap HG1.out
  have hg2 := lt_of_heap HG2.out
  have hq := lt_of_heap HBQ.out
  have KC := contains_any w5 pa P.length pc _ (c : Int) HPR.out.nums
  rw [show decide ((c : Int) ∈ P.map (fun p : Nat => (p : Int))) = decide (c ∈ P) by rw [decide_eq_decide]; exact mem_cast c P] at KC
  have KC := hide KC
  clear hx5 hz5 hb5
  go_wp2_with fail
  refine KC.out.mono ?_
  rintro e w6 ⟨rfl, h6⟩
  obtain rfl : w5 = w6 := h6.symm
  clear h6
  by_cases hcP : c ∈ P
  · rw [decide_eq_true hcP]
    obtain ⟨_, z0, z1, f0, f1⟩ := two_cells HZ5.out
    have HE := hide (w2_end (K := g0) (M := M) (z := 0) (n := g0) (Nat.le_succ g0) HZ5.out HB5.out (frw_zero _ (by have := HB5.out.size; omega)))
    clear KC
    go_wp2
    exact bodyPost_ret (v := .agg #[.bool false, .slice none 0 0]) (res_c (g := g0 + 1) rfl rfl HE.out.2.2) rfl ⟨_, rfl, by rw [lft, if_pos hcP]; exact HE.out.1, HE.out.2.1⟩
  · rw [decide_eq_false hcP]
    clear KC
    go_upto_region 3 with fail
    refine region_tail 7 [17, 18, 19, 20, 21, 22, 7] [Eqs (.pointer (some ⟨q, 0, none⟩)), Eqs (.pointer (some ⟨q, 0, none⟩)), Eqs (.pointer (some ⟨q, 2, none⟩)), (IsW lead L), (IsW x L), (FrW g0 (lead * x) (L + L)), (NewW w5.heap.size)] rfl rfl (by decide) (by kernel_rfl) (by kernel_rfl) (by decide) (by kernel_rfl) ⟨Eqs.mono _, Eqs.mono _, Eqs.mono _, (Mono.of4 (IsW.mono4 _ _)), (Mono.of4 (IsW.mono4 _ _)), (Mono.of4 (FrW.mono4 _ _ _)), (NewW.mono _), trivial⟩ ?_ ?_
    · exact ⟨⟨rfl, fun a_ w_ _ hB hR hD => op_ldbp ((hR 2 rfl).trans (eval_list rfl)) ((hB.cell (p := ⟨g1, 0, none⟩) hg1).trans c1)⟩,
          ⟨rfl, fun a_ w_ _ hB hR hD => op_nilc (show a_.eval (.tmp 17) = .pointer (some ⟨q, 0, none⟩) from hD 0 rfl)⟩,
          ⟨rfl, fun a_ w_ _ hB hR hD => op_faB fab2 (show a_.eval (.tmp 18) = .pointer (some ⟨q, 0, none⟩) from hD 1 rfl)⟩,
          ⟨rfl, fun a_ w_ _ hB hR hD => op_ldc (show a_.eval (.tmp 19) = .pointer (some ⟨q, 2, none⟩) from hD 2 rfl) ((hB.cell (p := ⟨q, 2, none⟩) hq).trans b2) ((hB.cell (p := ⟨q, 2 + 1, none⟩) hq).trans b3) (Mono.of4 (IsW.mono4 _ _) _ _ _ hB HLD.out)⟩,
          ⟨rfl, fun a_ w_ _ hB hR hD => op_ldP ((hR 5 rfl).trans (eval_list rfl)) ((hB.block _ (lt_of_heap HX5.out)).trans HX5.out) (Mono.of4 (IsW.mono4 _ _) _ _ _ hB HXW.out)⟩,
          ⟨rfl, fun a_ w_ _ hB hR hD => op_mulw (show (IsW lead L) (a_.eval (.tmp 20)) w_ from hD 3 rfl) (show (IsW x L) (a_.eval (.tmp 21)) w_ from hD 4 rfl) (by omega) (by omega) (by have := HB5.out.size; have := hB.size; omega)⟩,
          ⟨rfl, fun a_ w_ _ hB hR hD => op_newW hB.size⟩,
          trivial⟩
    · intro a' w' hn' hd' hB' hR' hP'
      have e17 : a'.eval (.tmp 17) = .pointer (some ⟨q, 0, none⟩) := hP' 0 (by decide)
      have e18 : a'.eval (.tmp 18) = .pointer (some ⟨q, 0, none⟩) := hP' 1 (by decide)
      have e19 : a'.eval (.tmp 19) = .pointer (some ⟨q, 2, none⟩) := hP' 2 (by decide)
      obtain ⟨u20, e20⟩ : ∃ u, a'.eval (.tmp 20) = u := ⟨_, rfl⟩
      obtain ⟨u21, e21⟩ : ∃ u, a'.eval (.tmp 21) = u := ⟨_, rfl⟩
      obtain ⟨u22, e22⟩ : ∃ u, a'.eval (.tmp 22) = u := ⟨_, rfl⟩
      have hT : (FrW g0 (lead * x) (L + L)) (a'.eval (.tmp 22)) w' := hP' 5 (by decide)
      rw [e22] at hT
      obtain ⟨u7, e7⟩ : ∃ u, a'.eval (.tmp 7) = u := ⟨_, rfl⟩
      have hN : (NewW w5.heap.size) (a'.eval (.tmp 7)) w' := hP' 6 (by decide)
      rw [e7] at hN
      refine tail_fit hn' hd' hR' (.s4 rfl <| .same rfl <| .same rfl <| .same rfl <| .new e7 <| .s4 rfl <| .s4 rfl <| .same rfl <| .new e17 <| .new e18 <| .new e19 <| .new e20 <| .new e21 <| .new e22 <| .s16 rfl <| .s4 rfl <| .s4 rfl <| .s4 rfl <| .same rfl <| .nil) ?_
      clear e17 e18 e19 e20 e21 e22 e7
      obtain ⟨ng7, a7, m7, c7, rfl⟩ := hT.agg
      obtain ⟨g7, hg7, rfl, hh7⟩ := hN
      obtain ⟨_, s0, s1, sf0, sf1⟩ := two_cells hh7
      have hE7 := w2_end (n := w5.heap.size) hg7 hh7 hB' hT
      have hS7 := set_w2 hh7 (.bool ng7) (.slice a7 m7 c7)
      have HHM := hide (And.intro hcP (And.intro hPm hMz))
      clear hn' hd' hR' hP'
      go_upto_region 4 with fail
      generalize (w'.setCell ⟨g7, 0, none⟩ (.bool ng7)).setCell ⟨g7, 1, none⟩ (.slice a7 m7 c7) = w7 at *
      obtain ⟨hF7, hB7, _⟩ := hE7
      have c1' := (hB7.cell (p := ⟨g1, 0, none⟩) hg1).trans c1
      have b1' := (hB7.cell (p := ⟨q, 1, none⟩) hq).trans b1
      have HF7 := hide (hF7.fit (L' := L + L + 1) (by have := lpart_lt (zs := zs) (c := c) HLDb.out HXb.out HZb.out [] (fun e he => by cases he) (by simp); simpa using this))
      have HB7 := hide hB7
      have HS7 := hide hS7
      clear hF7 hB7 hS7 hh7 hT hB' s0 s1 sf0 sf1
      go_wp2_with fail
      go_loopw [8, 9, 28] (fun _ _ iv wr => ∃ (k : Nat), iv = .int .i64 k ∧ k ≤ P.length ∧ Below w5.heap.size w5 wr ∧ ∃ sng sa sm sc, wr.heap[g7]? = some (.cells #[.bool sng, .slice sa sm sc] 30 (0, 0)) ∧ FrW g0 (((P.zip rows).take k).foldl (lstep zs c) (lead * x)) (L + L + 1) (.agg #[.bool sng, .slice sa sm sc]) wr) (fun _ _ iv _ => P.length - (intOf iv).toNat)
      case atStart => exact ⟨0, rfl, Nat.zero_le _, HB7.out, ng7, a7, m7, c7, HS7.out, HF7.out⟩
      case round =>
        obtain ⟨k, rfl, hk, hbw, sng, sa, sm, sc, hs7, hf7⟩ := hrel
        have HW := hide hbw
        have HSr := hide hs7
        have HFr := hide hf7
        by_cases hlt : k < P.length
        · have hlt' : (k : Int) < (P.length : Int) := by omega
          obtain ⟨p, hp⟩ : ∃ p, P[k]? = some p := ⟨_, List.getElem?_eq_getElem hlt⟩
          obtain ⟨r, hr⟩ : ∃ r, rows[k]? = some r := ⟨_, List.getElem?_eq_getElem (by have := HPl.out.1; omega)⟩
          have hpn : p < zs.length := by rw [HPl.out.2.2.2]; exact HPl.out.2.1 p (List.mem_of_getElem? hp)
          have hrl : r.length = n := HPl.out.2.2.1 r (List.mem_of_getElem? hr)
          have hkm : k < rows.length := (List.getElem?_eq_some_iff.1 hr).1
          have hcn' : c < r.length := by omega
          obtain ⟨y1, hy1⟩ : ∃ y, zs[p]? = some y := ⟨_, List.getElem?_eq_getElem hpn⟩
          obtain ⟨y2, hy2⟩ : ∃ y, r[c]? = some y := ⟨_, List.getElem?_eq_getElem hcn'⟩
          obtain ⟨pb, po, rfl, hpb, p0⟩ := (HPR.out.below hbw).cell hp
          obtain ⟨mb, mo, uv, rfl, hmb, m0, hur⟩ := (HMR.out.below hbw).cell hr
          obtain ⟨ea, ec, rfl, _⟩ := hur.parts
          obtain ⟨eb, eo, eng, ea', em', ec', rfl, heb, e0, e1, hy2w⟩ := hur.cell hy2
          obtain ⟨rb, ro, rng, ra', rm', rc', rfl, hrb, r0, r1, hy1w⟩ := (HRW.out.below hbw).cell hy1
          have HY1 := hide hy1w
          have HY2 := hide hy2w
          have c1r := (hbw.cell (p := ⟨g1, 0, none⟩) hg1).trans c1
          have c2r := (hbw.cell (p := ⟨g2, 0, none⟩) hg2).trans c2
          have b0r := (hbw.cell (p := ⟨q, 0, none⟩) hq).trans b0
          have hg1r := Nat.lt_of_lt_of_le hg1 hbw.size
          have hg2r := Nat.lt_of_lt_of_le hg2 hbw.size
          have hqr := Nat.lt_of_lt_of_le hq hbw.size
          obtain ⟨sk, hsk⟩ : ∃ s, ((P.zip rows).take k).foldl (lstep zs c) (lead * x) = s := ⟨_, rfl⟩
          have HSK := hide (hf7.is)
          rw [hsk] at HSK
          have HNX : Hid (((P.zip rows).take (k + 1)).foldl (lstep zs c) (lead * x) = sk - y1 * y2) := by
            have hz : (P.zip rows)[k]? = some (p, r) := by rw [List.getElem?_zip_eq_some]; exact ⟨hp, hr⟩
            refine (show _ = _ from ?_)
            rw [foldl_take _ _ hz, hsk, lstep, List.getD_eq_getElem?_getD, List.getD_eq_getElem?_getD, hy1, hy2]
            rfl
          clear hbw hs7 hf7 hy1w hy2w hur hp hr hy1 hy2 hsk
          go_upto_region 7 with fail
          refine region_tail 17 [33, 34, 35, 36, 37, 38, 39, 40, 41, 42, 43, 44, 45, 46, 47, 48, 49] [(IsW sk (L + L + 1)), Eqs (.slice (some ⟨rb, ro, none⟩) zs.length rc), Eqs (.int .i64 (p : Int)), Eqs (.pointer (some ⟨rb, ro + p * 2, none⟩)), (IsW y1 L), Eqs (.pointer (some ⟨q, 0, none⟩)), Eqs (.pointer (some ⟨q, 0, none⟩)), Eqs (.pointer (some ⟨q, 0, none⟩)), Eqs (.slice (some ⟨mb, mo, none⟩) rows.length mc), Eqs (.int .i64 (k : Int)), Eqs (.pointer (some ⟨mb, mo + k, none⟩)), Eqs (.slice (some ⟨eb, eo, none⟩) r.length ec), Eqs (.int .i64 (c : Int)), Eqs (.pointer (some ⟨eb, eo + c * 2, none⟩)), (IsW y2 L), (FrW g0 (y1 * y2) (L + L)), (FrW g0 (sk - y1 * y2) (L + L + 1 + (L + L) + 1))] rfl rfl (by decide) (by kernel_rfl) (by kernel_rfl) (by decide) (by kernel_rfl) ⟨(Mono.of4 (IsW.mono4 _ _)), Eqs.mono _, Eqs.mono _, Eqs.mono _, (Mono.of4 (IsW.mono4 _ _)), Eqs.mono _, Eqs.mono _, Eqs.mono _, Eqs.mono _, Eqs.mono _, Eqs.mono _, Eqs.mono _, Eqs.mono _, Eqs.mono _, (Mono.of4 (IsW.mono4 _ _)), (Mono.of4 (FrW.mono4 _ _ _)), (Mono.of4 (FrW.mono4 _ _ _)), trivial⟩ ?_ ?_
          · exact ⟨⟨rfl, fun a_ w_ _ hB hR hD => op_ldP ((hR 7 rfl).trans (eval_list rfl)) ((hB.block _ (lt_of_heap HSr.out)).trans HSr.out) (Mono.of4 (IsW.mono4 _ _) _ _ _ hB HSK.out)⟩,
                ⟨rfl, fun a_ w_ _ hB hR hD => op_ldsW ((hR 3 rfl).trans (eval_list rfl)) ((hB.cell (p := ⟨g2, 0, none⟩) hg2r).trans c2r)⟩,
                ⟨rfl, fun a_ w_ _ hB hR hD => op_mv ((hR 9 rfl).trans (eval_list rfl))⟩,
                ⟨rfl, fun a_ w_ _ hB hR hD => op_idxr (show a_.eval (.tmp 34) = .slice (some ⟨rb, ro, none⟩) zs.length rc from hD 1 rfl) rfl (show a_.eval (.tmp 35) = .int .i64 (p : Int) from hD 2 rfl) hpn⟩,
                ⟨rfl, fun a_ w_ _ hB hR hD => op_ldc (show a_.eval (.tmp 36) = .pointer (some ⟨rb, ro + p * 2, none⟩) from hD 3 rfl) ((hB.cell (p := ⟨rb, ro + p * 2, none⟩) hrb).trans r0) ((hB.cell (p := ⟨rb, ro + p * 2 + 1, none⟩) hrb).trans r1) (Mono.of4 (IsW.mono4 _ _) _ _ _ hB HY1.out)⟩,
                ⟨rfl, fun a_ w_ _ hB hR hD => op_ldbp ((hR 2 rfl).trans (eval_list rfl)) ((hB.cell (p := ⟨g1, 0, none⟩) hg1r).trans c1r)⟩,
                ⟨rfl, fun a_ w_ _ hB hR hD => op_nilc (show a_.eval (.tmp 38) = .pointer (some ⟨q, 0, none⟩) from hD 5 rfl)⟩,
                ⟨rfl, fun a_ w_ _ hB hR hD => op_faB fab0 (show a_.eval (.tmp 39) = .pointer (some ⟨q, 0, none⟩) from hD 6 rfl)⟩,
                ⟨rfl, fun a_ w_ _ hB hR hD => op_ldsR (show a_.eval (.tmp 40) = .pointer (some ⟨q, 0, none⟩) from hD 7 rfl) ((hB.cell (p := ⟨q, 0, none⟩) hqr).trans b0r)⟩,
                ⟨rfl, fun a_ w_ _ hB hR hD => op_mv ((hR 8 rfl).trans (eval_list rfl))⟩,
                ⟨rfl, fun a_ w_ _ hB hR hD => op_idxM (show a_.eval (.tmp 41) = .slice (some ⟨mb, mo, none⟩) rows.length mc from hD 8 rfl) rfl (show a_.eval (.tmp 42) = .int .i64 (k : Int) from hD 9 rfl) hkm⟩,
                ⟨rfl, fun a_ w_ _ hB hR hD => op_ldsW (show a_.eval (.tmp 43) = .pointer (some ⟨mb, mo + k, none⟩) from hD 10 rfl) ((hB.cell (p := ⟨mb, mo + k, none⟩) hmb).trans m0)⟩,
                ⟨rfl, fun a_ w_ _ hB hR hD => op_mv ((hR 0 rfl).trans (eval_list rfl))⟩,
                ⟨rfl, fun a_ w_ _ hB hR hD => op_idxr (show a_.eval (.tmp 44) = .slice (some ⟨eb, eo, none⟩) r.length ec from hD 11 rfl) rfl (show a_.eval (.tmp 45) = .int .i64 (c : Int) from hD 12 rfl) hcn'⟩,
                ⟨rfl, fun a_ w_ _ hB hR hD => op_ldc (show a_.eval (.tmp 46) = .pointer (some ⟨eb, eo + c * 2, none⟩) from hD 13 rfl) ((hB.cell (p := ⟨eb, eo + c * 2, none⟩) heb).trans e0) ((hB.cell (p := ⟨eb, eo + c * 2 + 1, none⟩) heb).trans e1) (Mono.of4 (IsW.mono4 _ _) _ _ _ hB HY2.out)⟩,
                ⟨rfl, fun a_ w_ _ hB hR hD => op_mulw (show (IsW y1 L) (a_.eval (.tmp 37)) w_ from hD 4 rfl) (show (IsW y2 L) (a_.eval (.tmp 47)) w_ from hD 14 rfl) (by omega) (by omega) (by have := HB5.out.size; have := HW.out.size; have := hB.size; omega)⟩,
                ⟨rfl, fun a_ w_ _ hB hR hD => op_subw (show (IsW sk (L + L + 1)) (a_.eval (.tmp 33)) w_ from hD 0 rfl) (FrW.is (show (FrW g0 (y1 * y2) (L + L)) (a_.eval (.tmp 48)) w_ from hD 15 rfl)) (by omega) (by omega) (by have := HB5.out.size; have := HW.out.size; have := hB.size; omega)⟩,
                trivial⟩
          · intro a' w' hn' hd' hB' hR' hP'
            obtain ⟨u33, e33⟩ : ∃ u, a'.eval (.tmp 33) = u := ⟨_, rfl⟩
            have e34 : a'.eval (.tmp 34) = .slice (some ⟨rb, ro, none⟩) zs.length rc := hP' 1 (by decide)
            have e35 : a'.eval (.tmp 35) = .int .i64 (p : Int) := hP' 2 (by decide)
            have e36 : a'.eval (.tmp 36) = .pointer (some ⟨rb, ro + p * 2, none⟩) := hP' 3 (by decide)
            obtain ⟨u37, e37⟩ : ∃ u, a'.eval (.tmp 37) = u := ⟨_, rfl⟩
            have e38 : a'.eval (.tmp 38) = .pointer (some ⟨q, 0, none⟩) := hP' 5 (by decide)
            have e39 : a'.eval (.tmp 39) = .pointer (some ⟨q, 0, none⟩) := hP' 6 (by decide)
            have e40 : a'.eval (.tmp 40) = .pointer (some ⟨q, 0, none⟩) := hP' 7 (by decide)
            have e41 : a'.eval (.tmp 41) = .slice (some ⟨mb, mo, none⟩) rows.length mc := hP' 8 (by decide)
            have e42 : a'.eval (.tmp 42) = .int .i64 (k : Int) := hP' 9 (by decide)
            have e43 : a'.eval (.tmp 43) = .pointer (some ⟨mb, mo + k, none⟩) := hP' 10 (by decide)
            have e44 : a'.eval (.tmp 44) = .slice (some ⟨eb, eo, none⟩) r.length ec := hP' 11 (by decide)
            have e45 : a'.eval (.tmp 45) = .int .i64 (c : Int) := hP' 12 (by decide)
            have e46 : a'.eval (.tmp 46) = .pointer (some ⟨eb, eo + c * 2, none⟩) := hP' 13 (by decide)
            obtain ⟨u47, e47⟩ : ∃ u, a'.eval (.tmp 47) = u := ⟨_, rfl⟩
            obtain ⟨u48, e48⟩ : ∃ u, a'.eval (.tmp 48) = u := ⟨_, rfl⟩
            obtain ⟨u49, e49⟩ : ∃ u, a'.eval (.tmp 49) = u := ⟨_, rfl⟩
            have hT : (FrW g0 (sk - y1 * y2) (L + L + 1 + (L + L) + 1)) (a'.eval (.tmp 49)) w' := hP' 16 (by decide)
            rw [e49] at hT
            refine tail_fit hn' hd' hR' (.s16 rfl <| .s16 rfl <| .same rfl <| .new e33 <| .new e34 <| .new e35 <| .new e36 <| .new e37 <| .new e38 <| .new e39 <| .new e40 <| .new e41 <| .new e42 <| .new e43 <| .new e44 <| .new e45 <| .new e46 <| .new e47 <| .new e48 <| .new e49 <| .same rfl <| .same rfl <| .nil) ?_
            clear e33 e34 e35 e36 e37 e38 e39 e40 e41 e42 e43 e44 e45 e46 e47 e48 e49
            obtain ⟨ng9, a9, m9, c9, rfl⟩ := hT.agg
            have hs9 := (hB'.block _ (lt_of_heap HSr.out)).trans HSr.out
            obtain ⟨_, s0, s1, sf0, sf1⟩ := two_cells hs9
            have HE9 := hide (w2_end (n := w5.heap.size) hg7 hs9 (HW.out.trans (hB'.mono HW.out.size)) hT)
            have HS9 := hide (set_w2 hs9 (.bool ng9) (.slice a9 m9 c9))
            clear hn' hd' hR' hP' hB' hT hs9
            go_wp2
            go_roundw
            case rel =>
              refine ⟨k + 1, by go_num, by omega, HE9.out.2.1, ng9, a9, m9, c9, HS9.out, ?_⟩
              rw [HNX.out]
              refine HE9.out.1.fit ?_
              rw [← HNX.out]
              exact lpart_lt HLDb.out HXb.out HZb.out _ (fun e he => HRb.out _ (List.of_mem_zip (List.mem_of_mem_take he)).2) (by rw [List.length_take, List.length_zip]; have := HHM.out.2.1; omega)
            case measure => simp [intOf]; omega
        · have hlt' : decide ((k : Int) < (P.length : Int)) = false := by simp; omega
          obtain ⟨_, s0, s1, sf0, sf1⟩ := two_cells hs7
          have hz9 := (hbw.block _ (lt_of_heap HZ5.out)).trans HZ5.out
          obtain ⟨_, t0, t1, tf0, tf1⟩ := two_cells hz9
          have hfl : ((P.zip rows).take k).foldl (lstep zs c) (lead * x) = lft lead zs P rows c x := by
            rw [lft, if_neg HHM.out.1, List.take_of_length_le (by rw [List.length_zip]; omega)]
          rw [hfl] at hf7
          have HE := hide (w2_end (K := g0) (M := M) (n := g0) (Nat.le_succ g0) hz9 (HB5.out.trans (hbw.mono (by have := HB5.out.size; omega))) (hf7.fit HM.out))
          clear hbw hs7 hf7 hz9 hfl
          go_wp2
          exact bodyPost_ret (v := _) (res_c (g := g0 + 1) rfl rfl HE.out.2.2) rfl ⟨_, rfl, HE.out.1, HE.out.2.1⟩
end Lm
end Go.Proofs.Ytodgiglhconkoaa

namespace Go.Proofs.Ytodgiglhconkoaa
namespace Lm
open Go Go.RowKit
theorem one_cell {W : World} {f : Nat} {x : Value} {T : TypeId} (h : W.heap[f]? = some (.cells #[x] T (0, 0))) : f < W.heap.size ∧ W.cell? ⟨f, 0, none⟩ = some x ∧ W.frozen? ⟨f, 0, none⟩ = false := ⟨lt_of_heap h, by rw [cell_of_row _ _ _ _ _ (0, 0) h]; rfl, frozen_of_row _ _ _ _ _ h⟩
theorem ORow.low {K K' : Nat} {w : World} {v : Value} {zs : List Int} {L : Nat} (h : ORow K w v zs L) (hk : K' ≤ K) : ORow K' w v zs L := by
  obtain ⟨bv, e, hK, ⟨es, B, T, h1, h2, h3, h4, h5⟩, hl⟩ := h
  exact ⟨bv, e, Nat.le_trans hk hK, ⟨es, B, T, h1, h2, h3, fun k e z a b c => by obtain ⟨g1, g2, g3, g4, g5⟩ := h4 k e z a b c; exact ⟨g1, g2, g3, Nat.le_trans hk g4, g5⟩, h5⟩, hl⟩
theorem has_left1 : Has Try.prog 55 := by unfold Has; kernel_rfl
structure Shp (n : Nat) (P : List Nat) (rows : List (List Int)) : Prop where
  rl : ∀ r ∈ rows, r.length = n
  lt : ∀ p ∈ P, p < n
  pl : P.length = rows.length
  pm : P.length ≤ 100000
def lftR (lead : Int) (zs : List Int) (P : List Nat) (rows : List (List Int)) (n : Nat) : List Int := gRow (fun c => lft lead zs P rows c (zs.getD c 0)) n
set_option maxRecDepth 20000 in
set_option maxHeartbeats 4000000 in
theorem mleft_any (w : World) (q n L M : Nat) (vr : Value) (zs : List Int) (P : List Nat) (rows : List (List Int)) (lead : Int) (hr : IsRow w vr zs L) (hB : Bas w q P rows lead L) (hzn : zs.length = n) (hS : Shp n P rows) (hn : n ≤ 1000000) (hL : L ≤ 100000) (hM : ∀ z ∈ lftR lead zs P rows n, (z.natAbs : Int) < pw M) :
    Calls Try.prog 41 #[.pointer (some ⟨q, 0, none⟩), vr] w fun e w' => ∃ r, e = .returned r ∧ ORow w.heap.size w' r (lftR lead zs P rows n) M ∧ Below w.heap.size w w' := by
  subst hzn
  obtain ⟨ra, rc, rfl, _⟩ := hr.parts
  have hmf : ∀ (fn : Fn) (first cap : Array Value) (w : World), (Instr.makeFunc fn first cap).run Try.prog w = .ok (.func fn first cap) w := fun _ _ _ _ => rfl
  obtain ⟨w2, hw2⟩ : ∃ w2, (w.alloc (.cells #[.pointer (some ⟨q, 0, none⟩)] 81)).alloc (.cells #[.slice ra zs.length rc] 27) = w2 := ⟨_, rfl⟩
  have h1 : w2.heap[w.heap.size]? = some (.cells #[.pointer (some ⟨q, 0, none⟩)] 81 (0, 0)) := by rw [← hw2]; exact alloc_keep (heap_alloc_new w _)
  have h2 : w2.heap[w.heap.size + 1]? = some (.cells #[.slice ra zs.length rc] 27 (0, 0)) := by
    rw [← hw2]
    have := heap_alloc_new (w.alloc (.cells #[.pointer (some ⟨q, 0, none⟩)] 81)) (.cells #[.slice ra zs.length rc] 27)
    simpa using this
  have hb2 : Below w.heap.size w w2 := by rw [← hw2]; exact (hAl _ _).trans ((hAl _ _).mono (hAl _ _).size)
  have hT : Turn w2 55 #[.pointer (some ⟨w.heap.size, 0, none⟩), .pointer (some ⟨w.heap.size + 1, 0, none⟩)] zs L M (fun c => lft lead zs P rows c (zs.getD c 0)) := by
    intro W c z xv hb hz hx
    have hc : c < zs.length := (List.getElem?_eq_some_iff.1 hz).1
    have hzd : zs.getD c 0 = z := by rw [List.getD_eq_getElem?_getD, hz]; rfl
    have hbW := hb2.trans (hb.mono hb2.size)
    have hMc : ((lft lead zs P rows c z).natAbs : Int) < pw M := hM _ (by
      rw [← hzd]
      exact List.mem_map.2 ⟨c, List.mem_range.2 (by omega), rfl⟩)
    have K := mleft1_aux W W.heap.size rfl c z lead xv (.slice ra zs.length rc) w.heap.size (w.heap.size + 1) q zs.length L M zs P rows ((hb.block _ (lt_of_heap h1)).trans h1) ((hb.block _ (lt_of_heap h2)).trans h2) (hr.below hbW) (hB.below hbW) hx rfl (by omega) hS.rl hS.lt hS.pl hS.pm hL hMc
    have e1 : (fun c => lft lead zs P rows c (zs.getD c 0)) c = lft lead zs P rows c z := by show lft lead zs P rows c (zs.getD c 0) = _; rw [hzd]
    rw [e1]
    exact K
  have K := mturned_any w2 _ zs L M (hr.below hb2) (by omega) _ has_left1 _ _ hT
  obtain ⟨_, c2, _⟩ := one_cell h2
  have HW2 := hide hw2
  have HB2 := hide hb2
  have K := hide K
  clear hr hB hS hM hT h1 h2 hb2 hw2
  go_enter Try.func41, Try.ntmps41
  go_upto_region 1 with fail
  rw [HW2.out]
  go_wp2_with fail
  refine K.out.mono ?_
  rintro e w3 ⟨r, rfl, ho, hb3⟩
  obtain ⟨ao, cap, rfl, _⟩ := ho.is.parts
  have HO := hide ho
  have HB3 := hide (HB2.out.trans (hb3.mono HB2.out.size))
  clear ho hb3 K
  go_wp2
  refine bodyPost_ret (v := _) (by simp [results, Try.results41, go_sem]; try rfl) rfl ⟨_, rfl, HO.out.low HB2.out.size, HB3.out⟩
end Lm
end Go.Proofs.Ytodgiglhconkoaa

namespace Go.Proofs.Ytodgiglhconkoaa
namespace Lm
open Go Go.RowKit
theorem op_ldnI {dst : Option Tmp} {ty : TypeId} {pos : String} {after : Array Edge} {guard : Option (Nat × Bool)} {a : Act} {w : World} {k : Nat} {p : Addr} {z : Int} (hp : a.eval (.tmp k) = .pointer (some p)) (hc : w.cell? p = some (.int .i64 z)) :
    Does Try.prog { dst, op := .load 3 (.tmp k), type := ty, pos, after, guard } a.eval w fun v' w' => Below w.heap.size w w' ∧ Eqs (.int .i64 z) v' w' := by
  refine does_load (v := .int .i64 z) ?_ ⟨Below.refl _ _, rfl⟩
  rw [hp]
  go_simp
theorem has_exactM : Has Try.prog 48 := by unfold Has; kernel_rfl
theorem op_exactw {dst : Option Tmp} {ty : TypeId} {pos : String} {after : Array Edge} {guard : Option (Nat × Bool)} {a : Act} {w : World} {ats : Array TypeId} {i j : Nat} {x y : Int} {L M K : Nat} (h1 : IsW x L (a.eval (.tmp i)) w) (h2 : IsW y M (a.eval (.tmp j)) w) (hL : L ≤ 400000) (hM : M ≤ 400000) (hK : K ≤ w.heap.size) :
    Does Try.prog { dst, op := .call { callee := .value (.func 48), args := #[.tmp i, .tmp j], argTypes := ats }, type := ty, pos, after, guard } a.eval w fun v w' => Below w.heap.size w w' ∧ FrW K (x / y) (L + 4) v w' :=
  does_call has_exactM #[_, _] (by simp) ((mexactly_any _ x y _ _ L M h1 h2 hL hM).mono fun e w' ⟨v, h, hf, hb⟩ => ⟨v, h, hb, hf.low hK⟩)
set_option maxRecDepth 20000 in
set_option maxHeartbeats 4000000 in
theorem mtake1_aux (W : World) (g0 : Nat) (hg0 : W.heap.size = g0) (k : Nat) (x : Int) (xv : Value) (L : Nat) (hx : IsW x L xv W) (hL : L ≤ 100000) :
    Calls Try.prog 59 #[.int .i64 (k : Int), xv] W fun e W' => ∃ v, e = .returned v ∧ FrW g0 (-x) L v W' ∧ Below g0 W W' := by
  obtain ⟨nx, ax, mx, cx, xs, rfl, _⟩ := id hx
  have hb5 : Below W.heap.size W ((W.alloc (.cells #[.bool nx, .slice ax mx cx] 30)).alloc (.cells #[.bool false, .slice none 0 0] 30)) := by (repeat' (first | (with_reducible exact Below.refl _ _) | (with_reducible assumption) | (with_reducible refine gdrewN ?_ _) | (with_reducible refine Below.alloc ?_ ?_ _) | (with_reducible refine Below.drew ?_) | (with_reducible refine Below.setCell ?_ ?_ _) | go_size))
  have hz5 : ((W.alloc (.cells #[.bool nx, .slice ax mx cx] 30)).alloc (.cells #[.bool false, .slice none 0 0] 30)).heap[W.heap.size + 1]? = some (.cells #[.bool false, .slice none 0 0] 30 (0, 0)) := by
    have := heap_alloc_new (W.alloc (.cells #[.bool nx, .slice ax mx cx] 30)) (.cells #[.bool false, .slice none 0 0] 30)
    simpa using this
  have K := negF _ x _ L (hx.ru (Ru.of_below hb5)) (by omega)
  rw [hg0] at hb5 hz5
  have HB5 := hide hb5
  have HZ5 := hide hz5
  have K := hide K
  clear hx hb5 hz5
  go_enter Try.func59, Try.ntmps59
  go_wp2_with fail
  refine K.out.mono ?_
  rintro e w6 ⟨v, rfl, hf, hb6⟩
  obtain ⟨ng6, a6, m6, c6, rfl⟩ := hf.agg
  have hz6 := (hb6.block _ (lt_of_heap HZ5.out)).trans HZ5.out
  obtain ⟨_, z0, z1, f0, f1⟩ := two_cells hz6
  have hb06 := HB5.out.trans (hb6.mono (by have := HB5.out.size; omega))
  have HE := hide (w2_end (K := g0) (n := g0) (Nat.le_succ g0) hz6 hb06 (hf.low (by have := HB5.out.size; omega)))
  clear hf hb6 hz6 hb06 K
  go_wp2
  exact bodyPost_ret (v := _) (res_c (g := g0 + 1) rfl rfl HE.out.2.2) rfl ⟨_, rfl, HE.out.1, HE.out.2.1⟩
set_option maxRecDepth 20000 in
set_option maxHeartbeats 8000000 in
theorem mtake2_aux (W : World) (g0 : Nat) (hg0 : W.heap.size = g0) (k cc gl gc gr gb q L M : Nat) (x lead : Int) (xv lv rv : Value) (ls rs : List Int) (y1 y2 y3 : Int) (u0 u1 : Value) (lng : Bool) (la : Option Addr) (lm lc : Nat)
    (h1 : W.heap[gl]? = some (.cells #[lv] 27 (0, 0))) (h2 : W.heap[gc]? = some (.cells #[.int .i64 (cc : Int)] 3 (0, 0))) (h3 : W.heap[gr]? = some (.cells #[rv] 27 (0, 0))) (h4 : W.heap[gb]? = some (.cells #[.pointer (some ⟨q, 0, none⟩)] 81 (0, 0))) (h5 : W.heap[q]? = some (.cells #[u0, u1, .bool lng, .slice la lm lc] 54 (0, 0)))
    (hl : IsRow W lv ls L) (hr : IsRow W rv rs L) (hd : IsW lead L (.agg #[.bool lng, .slice la lm lc]) W) (hx : IsW x L xv W) (hy1 : ls[cc]? = some y1) (hy2 : rs[cc]? = some y2) (hy3 : ls[k]? = some y3) (hL : L ≤ 50000) (hM : (((y1 * x - y2 * y3) / lead).natAbs : Int) < pw M) :
    Calls Try.prog 60 #[.int .i64 (k : Int), xv, .pointer (some ⟨gl, 0, none⟩), .pointer (some ⟨gc, 0, none⟩), .pointer (some ⟨gr, 0, none⟩), .pointer (some ⟨gb, 0, none⟩)] W fun e W' => ∃ v, e = .returned v ∧ FrW g0 ((y1 * x - y2 * y3) / lead) M v W' ∧ Below g0 W W' := by
  obtain ⟨nx, ax, mx, cx, xs, rfl, _⟩ := id hx
  obtain ⟨lav, lcp, rfl, _⟩ := hl.parts
  obtain ⟨rav, rcp, rfl, _⟩ := hr.parts
  have hb5 : Below W.heap.size W ((W.alloc (.cells #[.bool nx, .slice ax mx cx] 30)).alloc (.cells #[.bool false, .slice none 0 0] 30)) := by (repeat' (first | (with_reducible exact Below.refl _ _) | (with_reducible assumption) | (with_reducible refine gdrewN ?_ _) | (with_reducible refine Below.alloc ?_ ?_ _) | (with_reducible refine Below.drew ?_) | (with_reducible refine Below.setCell ?_ ?_ _) | go_size))
  have hx5 : ((W.alloc (.cells #[.bool nx, .slice ax mx cx] 30)).alloc (.cells #[.bool false, .slice none 0 0] 30)).heap[W.heap.size]? = some (.cells #[.bool nx, .slice ax mx cx] 30 (0, 0)) := alloc_keep (heap_alloc_new W _)
  have hz5 : ((W.alloc (.cells #[.bool nx, .slice ax mx cx] 30)).alloc (.cells #[.bool false, .slice none 0 0] 30)).heap[W.heap.size + 1]? = some (.cells #[.bool false, .slice none 0 0] 30 (0, 0)) := by
    have := heap_alloc_new (W.alloc (.cells #[.bool nx, .slice ax mx cx] 30)) (.cells #[.bool false, .slice none 0 0] 30)
    simpa using this
  have HXW := hide (hx.ru (Ru.of_below hb5))
  have HLD := hide (hd.ru (Ru.of_below hb5))
  obtain ⟨lb, lo, n1, a1, m1, c1, rfl, hlb, l0, l1, hw1⟩ := (hl.below hb5).cell hy1
  obtain ⟨lb', lo', n3, a3, m3, c3, e3, _, k0, k1, hw3⟩ := (hl.below hb5).cell hy3
  obtain ⟨rfl, rfl⟩ : lb = lb' ∧ lo = lo' := by simpa using e3
  obtain ⟨rb, ro, n2, a2, m2, c2, rfl, hrb, r0, r1, hw2⟩ := (hr.below hb5).cell hy2
  have HY1 := hide hw1
  have HY2 := hide hw2
  have HY3 := hide hw3
  have hcl : cc < ls.length := (List.getElem?_eq_some_iff.1 hy1).1
  have hcr : cc < rs.length := (List.getElem?_eq_some_iff.1 hy2).1
  have hkl : k < ls.length := (List.getElem?_eq_some_iff.1 hy3).1
  obtain ⟨hgl, cl, _⟩ := one_cell ((hb5.block _ (lt_of_heap h1)).trans h1)
  obtain ⟨hgc, ccl, _⟩ := one_cell ((hb5.block _ (lt_of_heap h2)).trans h2)
  obtain ⟨hgr, cr, _⟩ := one_cell ((hb5.block _ (lt_of_heap h3)).trans h3)
  obtain ⟨hgb, cb, _⟩ := one_cell ((hb5.block _ (lt_of_heap h4)).trans h4)
  have hq5 := (hb5.block _ (lt_of_heap h5)).trans h5
  have b2 := (show _ = some (Value.bool lng) from by rw [cell_of_row _ _ _ _ _ (0, 0) hq5]; rfl : ((W.alloc (.cells #[.bool nx, .slice ax mx cx] 30)).alloc (.cells #[.bool false, .slice none 0 0] 30)).cell? ⟨q, 2, none⟩ = some (.bool lng))
  have b3 := (show _ = some (Value.slice la lm lc) from by rw [cell_of_row _ _ _ _ _ (0, 0) hq5]; rfl : ((W.alloc (.cells #[.bool nx, .slice ax mx cx] 30)).alloc (.cells #[.bool false, .slice none 0 0] 30)).cell? ⟨q, 2 + 1, none⟩ = some (.slice la lm lc))
  have hq := lt_of_heap hq5
  have HM := hide hM
  clear hl hr hd hx hy1 hy2 hy3 hw1 hw2 hw3 e3 h1 h2 h3 h4 h5 hq5 hM
  go_enter Try.func60, Try.ntmps60
  go_upto_region 1 with fail
  generalize (W.alloc (.cells #[.bool nx, .slice ax mx cx] 30)).alloc (.cells #[.bool false, .slice none 0 0] 30) = w5 at *
  rw [hg0] at hx5 hz5 hb5
  have HX5 := hide hx5
  have HZ5 := hide hz5
  have HB5 := hide hb5
  clear hx5 hz5 hb5
  refine region_tail 17 [10, 11, 12, 13, 14, 15, 16, 17, 18, 19, 20, 21, 22, 23, 24, 25, 9] [Eqs (.slice (some ⟨lb, lo, none⟩) ls.length lcp), Eqs (.int .i64 (cc : Int)), Eqs (.pointer (some ⟨lb, lo + cc * 2, none⟩)), (IsW y1 L), (IsW x L), (FrW g0 (y1 * x) (L + L)), Eqs (.slice (some ⟨rb, ro, none⟩) rs.length rcp), Eqs (.int .i64 (cc : Int)), Eqs (.pointer (some ⟨rb, ro + cc * 2, none⟩)), (IsW y2 L), Eqs (.slice (some ⟨lb, lo, none⟩) ls.length lcp), Eqs (.int .i64 (k : Int)), Eqs (.pointer (some ⟨lb, lo + k * 2, none⟩)), (IsW y3 L), (FrW g0 (y2 * y3) (L + L)), (FrW g0 (y1 * x - y2 * y3) (L + L + (L + L) + 1)), (NewW w5.heap.size)] rfl rfl (by decide) (by kernel_rfl) (by kernel_rfl) (by decide) (by kernel_rfl) ⟨Eqs.mono _, Eqs.mono _, Eqs.mono _, (Mono.of4 (IsW.mono4 _ _)), (Mono.of4 (IsW.mono4 _ _)), (Mono.of4 (FrW.mono4 _ _ _)), Eqs.mono _, Eqs.mono _, Eqs.mono _, (Mono.of4 (IsW.mono4 _ _)), Eqs.mono _, Eqs.mono _, Eqs.mono _, (Mono.of4 (IsW.mono4 _ _)), (Mono.of4 (FrW.mono4 _ _ _)), (Mono.of4 (FrW.mono4 _ _ _)), (NewW.mono _), trivial⟩ ?_ ?_
  · exact ⟨⟨rfl, fun a_ w_ _ hB hR hD => op_ldsW ((hR 2 rfl).trans (eval_list rfl)) ((hB.cell (p := ⟨gl, 0, none⟩) hgl).trans cl)⟩,
        ⟨rfl, fun a_ w_ _ hB hR hD => op_ldnI ((hR 3 rfl).trans (eval_list rfl)) ((hB.cell (p := ⟨gc, 0, none⟩) hgc).trans ccl)⟩,
        ⟨rfl, fun a_ w_ _ hB hR hD => op_idxr (show a_.eval (.tmp 10) = .slice (some ⟨lb, lo, none⟩) ls.length lcp from hD 0 rfl) rfl (show a_.eval (.tmp 11) = .int .i64 (cc : Int) from hD 1 rfl) hcl⟩,
        ⟨rfl, fun a_ w_ _ hB hR hD => op_ldc (show a_.eval (.tmp 12) = .pointer (some ⟨lb, lo + cc * 2, none⟩) from hD 2 rfl) ((hB.cell (p := ⟨lb, lo + cc * 2, none⟩) hlb).trans l0) ((hB.cell (p := ⟨lb, lo + cc * 2 + 1, none⟩) hlb).trans l1) (Mono.of4 (IsW.mono4 _ _) _ _ _ hB HY1.out)⟩,
        ⟨rfl, fun a_ w_ _ hB hR hD => op_ldP ((hR 7 rfl).trans (eval_list rfl)) ((hB.block _ (lt_of_heap HX5.out)).trans HX5.out) (Mono.of4 (IsW.mono4 _ _) _ _ _ hB HXW.out)⟩,
        ⟨rfl, fun a_ w_ _ hB hR hD => op_mulw (show (IsW y1 L) (a_.eval (.tmp 13)) w_ from hD 3 rfl) (show (IsW x L) (a_.eval (.tmp 14)) w_ from hD 4 rfl) (by omega) (by omega) (by have := HB5.out.size; have := hB.size; omega)⟩,
        ⟨rfl, fun a_ w_ _ hB hR hD => op_ldsW ((hR 4 rfl).trans (eval_list rfl)) ((hB.cell (p := ⟨gr, 0, none⟩) hgr).trans cr)⟩,
        ⟨rfl, fun a_ w_ _ hB hR hD => op_ldnI ((hR 3 rfl).trans (eval_list rfl)) ((hB.cell (p := ⟨gc, 0, none⟩) hgc).trans ccl)⟩,
        ⟨rfl, fun a_ w_ _ hB hR hD => op_idxr (show a_.eval (.tmp 16) = .slice (some ⟨rb, ro, none⟩) rs.length rcp from hD 6 rfl) rfl (show a_.eval (.tmp 17) = .int .i64 (cc : Int) from hD 7 rfl) hcr⟩,
        ⟨rfl, fun a_ w_ _ hB hR hD => op_ldc (show a_.eval (.tmp 18) = .pointer (some ⟨rb, ro + cc * 2, none⟩) from hD 8 rfl) ((hB.cell (p := ⟨rb, ro + cc * 2, none⟩) hrb).trans r0) ((hB.cell (p := ⟨rb, ro + cc * 2 + 1, none⟩) hrb).trans r1) (Mono.of4 (IsW.mono4 _ _) _ _ _ hB HY2.out)⟩,
        ⟨rfl, fun a_ w_ _ hB hR hD => op_ldsW ((hR 2 rfl).trans (eval_list rfl)) ((hB.cell (p := ⟨gl, 0, none⟩) hgl).trans cl)⟩,
        ⟨rfl, fun a_ w_ _ hB hR hD => op_mv ((hR 0 rfl).trans (eval_list rfl))⟩,
        ⟨rfl, fun a_ w_ _ hB hR hD => op_idxr (show a_.eval (.tmp 20) = .slice (some ⟨lb, lo, none⟩) ls.length lcp from hD 10 rfl) rfl (show a_.eval (.tmp 21) = .int .i64 (k : Int) from hD 11 rfl) hkl⟩,
        ⟨rfl, fun a_ w_ _ hB hR hD => op_ldc (show a_.eval (.tmp 22) = .pointer (some ⟨lb, lo + k * 2, none⟩) from hD 12 rfl) ((hB.cell (p := ⟨lb, lo + k * 2, none⟩) hlb).trans k0) ((hB.cell (p := ⟨lb, lo + k * 2 + 1, none⟩) hlb).trans k1) (Mono.of4 (IsW.mono4 _ _) _ _ _ hB HY3.out)⟩,
        ⟨rfl, fun a_ w_ _ hB hR hD => op_mulw (show (IsW y2 L) (a_.eval (.tmp 19)) w_ from hD 9 rfl) (show (IsW y3 L) (a_.eval (.tmp 23)) w_ from hD 13 rfl) (by omega) (by omega) (by have := HB5.out.size; have := hB.size; omega)⟩,
        ⟨rfl, fun a_ w_ _ hB hR hD => op_subw (FrW.is (show (FrW g0 (y1 * x) (L + L)) (a_.eval (.tmp 15)) w_ from hD 5 rfl)) (FrW.is (show (FrW g0 (y2 * y3) (L + L)) (a_.eval (.tmp 24)) w_ from hD 14 rfl)) (by omega) (by omega) (by have := HB5.out.size; have := hB.size; omega)⟩,
        ⟨rfl, fun a_ w_ _ hB hR hD => op_newW hB.size⟩,
        trivial⟩
  · intro a' w' hn' hd' hB' hR' hP'
    have e10 : a'.eval (.tmp 10) = .slice (some ⟨lb, lo, none⟩) ls.length lcp := hP' 0 (by decide)
    have e11 : a'.eval (.tmp 11) = .int .i64 (cc : Int) := hP' 1 (by decide)
    have e12 : a'.eval (.tmp 12) = .pointer (some ⟨lb, lo + cc * 2, none⟩) := hP' 2 (by decide)
    obtain ⟨u13, e13⟩ : ∃ u, a'.eval (.tmp 13) = u := ⟨_, rfl⟩
    obtain ⟨u14, e14⟩ : ∃ u, a'.eval (.tmp 14) = u := ⟨_, rfl⟩
    obtain ⟨u15, e15⟩ : ∃ u, a'.eval (.tmp 15) = u := ⟨_, rfl⟩
    have e16 : a'.eval (.tmp 16) = .slice (some ⟨rb, ro, none⟩) rs.length rcp := hP' 6 (by decide)
    have e17 : a'.eval (.tmp 17) = .int .i64 (cc : Int) := hP' 7 (by decide)
    have e18 : a'.eval (.tmp 18) = .pointer (some ⟨rb, ro + cc * 2, none⟩) := hP' 8 (by decide)
    obtain ⟨u19, e19⟩ : ∃ u, a'.eval (.tmp 19) = u := ⟨_, rfl⟩
    have e20 : a'.eval (.tmp 20) = .slice (some ⟨lb, lo, none⟩) ls.length lcp := hP' 10 (by decide)
    have e21 : a'.eval (.tmp 21) = .int .i64 (k : Int) := hP' 11 (by decide)
    have e22 : a'.eval (.tmp 22) = .pointer (some ⟨lb, lo + k * 2, none⟩) := hP' 12 (by decide)
    obtain ⟨u23, e23⟩ : ∃ u, a'.eval (.tmp 23) = u := ⟨_, rfl⟩
    obtain ⟨u24, e24⟩ : ∃ u, a'.eval (.tmp 24) = u := ⟨_, rfl⟩
    obtain ⟨u25, e25⟩ : ∃ u, a'.eval (.tmp 25) = u := ⟨_, rfl⟩
    have hT : (FrW g0 (y1 * x - y2 * y3) (L + L + (L + L) + 1)) (a'.eval (.tmp 25)) w' := hP' 15 (by decide)
    rw [e25] at hT
    obtain ⟨u9, e9⟩ : ∃ u, a'.eval (.tmp 9) = u := ⟨_, rfl⟩
    have hN : (NewW w5.heap.size) (a'.eval (.tmp 9)) w' := hP' 16 (by decide)
    rw [e9] at hN
    refine tail_fit hn' hd' hR' (.s4 rfl <| .s4 rfl <| .same rfl <| .new e9 <| .new e10 <| .new e11 <| .new e12 <| .new e13 <| .new e14 <| .new e15 <| .new e16 <| .new e17 <| .new e18 <| .new e19 <| .new e20 <| .new e21 <| .new e22 <| .new e23 <| .new e24 <| .new e25 <| .s4 rfl <| .same rfl <| .same rfl <| .nil) ?_
    clear e10 e11 e12 e13 e14 e15 e16 e17 e18 e19 e20 e21 e22 e23 e24 e25 e9
    obtain ⟨ng9, a9, m9, c9, rfl⟩ := hT.agg
    obtain ⟨g9, hg9, rfl, hh9⟩ := hN
    obtain ⟨_, s0, s1, sf0, sf1⟩ := two_cells hh9
    have hE9 := w2_end (n := w5.heap.size) hg9 hh9 hB' hT
    have hS9 := set_w2 hh9 (.bool ng9) (.slice a9 m9 c9)
    clear hn' hd' hR' hP'
    go_upto_region 2 with fail
    generalize (w'.setCell ⟨g9, 0, none⟩ (.bool ng9)).setCell ⟨g9, 1, none⟩ (.slice a9 m9 c9) = w9 at *
    obtain ⟨hF9, hB9, _⟩ := hE9
    have cb9 := (hB9.cell (p := ⟨gb, 0, none⟩) hgb).trans cb
    have b29 := (hB9.cell (p := ⟨q, 2, none⟩) hq).trans b2
    have b39 := (hB9.cell (p := ⟨q, 2 + 1, none⟩) hq).trans b3
    have hgb9 := Nat.lt_of_lt_of_le hgb hB9.size
    have hq9 := Nat.lt_of_lt_of_le hq hB9.size
    have HLD9 := hide (HLD.out.ru (Ru.of_below hB9))
    have HF9 := hide hF9.is
    have HB9 := hide hB9
    have HS9 := hide hS9
    clear hF9 hB9 hS9 hh9 hT hB' s0 s1 sf0 sf1
    refine region_tail 6 [26, 27, 28, 29, 30, 31] [(IsW (y1 * x - y2 * y3) (L + L + (L + L) + 1)), Eqs (.pointer (some ⟨q, 0, none⟩)), Eqs (.pointer (some ⟨q, 0, none⟩)), Eqs (.pointer (some ⟨q, 2, none⟩)), (IsW lead L), (FrW g0 ((y1 * x - y2 * y3) / lead) (L + L + (L + L) + 1 + 4))] rfl rfl (by decide) (by kernel_rfl) (by kernel_rfl) (by decide) (by kernel_rfl) ⟨(Mono.of4 (IsW.mono4 _ _)), Eqs.mono _, Eqs.mono _, Eqs.mono _, (Mono.of4 (IsW.mono4 _ _)), (Mono.of4 (FrW.mono4 _ _ _)), trivial⟩ ?_ ?_
    · exact ⟨⟨rfl, fun a_ w_ _ hB hR hD => op_ldP ((hR 9 rfl).trans (eval_list rfl)) ((hB.block _ (lt_of_heap HS9.out)).trans HS9.out) (Mono.of4 (IsW.mono4 _ _) _ _ _ hB HF9.out)⟩,
          ⟨rfl, fun a_ w_ _ hB hR hD => op_ldbp ((hR 5 rfl).trans (eval_list rfl)) ((hB.cell (p := ⟨gb, 0, none⟩) hgb9).trans cb9)⟩,
          ⟨rfl, fun a_ w_ _ hB hR hD => op_nilc (show a_.eval (.tmp 27) = .pointer (some ⟨q, 0, none⟩) from hD 1 rfl)⟩,
          ⟨rfl, fun a_ w_ _ hB hR hD => op_faB fab2 (show a_.eval (.tmp 28) = .pointer (some ⟨q, 0, none⟩) from hD 2 rfl)⟩,
          ⟨rfl, fun a_ w_ _ hB hR hD => op_ldc (show a_.eval (.tmp 29) = .pointer (some ⟨q, 2, none⟩) from hD 3 rfl) ((hB.cell (p := ⟨q, 2, none⟩) hq9).trans b29) ((hB.cell (p := ⟨q, 2 + 1, none⟩) hq9).trans b39) (Mono.of4 (IsW.mono4 _ _) _ _ _ hB HLD9.out)⟩,
          ⟨rfl, fun a_ w_ _ hB hR hD => op_exactw (show (IsW (y1 * x - y2 * y3) (L + L + (L + L) + 1)) (a_.eval (.tmp 26)) w_ from hD 0 rfl) (show (IsW lead L) (a_.eval (.tmp 30)) w_ from hD 4 rfl) (by omega) (by omega) (by have := HB5.out.size; have := HB9.out.size; have := hB.size; omega)⟩,
          trivial⟩
    · intro a' w' hn' hd' hB' hR' hP'
      obtain ⟨u26, e26⟩ : ∃ u, a'.eval (.tmp 26) = u := ⟨_, rfl⟩
      have e27 : a'.eval (.tmp 27) = .pointer (some ⟨q, 0, none⟩) := hP' 1 (by decide)
      have e28 : a'.eval (.tmp 28) = .pointer (some ⟨q, 0, none⟩) := hP' 2 (by decide)
      have e29 : a'.eval (.tmp 29) = .pointer (some ⟨q, 2, none⟩) := hP' 3 (by decide)
      obtain ⟨u30, e30⟩ : ∃ u, a'.eval (.tmp 30) = u := ⟨_, rfl⟩
      obtain ⟨u31, e31⟩ : ∃ u, a'.eval (.tmp 31) = u := ⟨_, rfl⟩
      have hT2 : (FrW g0 ((y1 * x - y2 * y3) / lead) (L + L + (L + L) + 1 + 4)) (a'.eval (.tmp 31)) w' := hP' 5 (by decide)
      rw [e31] at hT2
      refine tail_fit hn' hd' hR' (.s16 rfl <| .s4 rfl <| .s4 rfl <| .same rfl <| .same rfl <| .new e26 <| .new e27 <| .new e28 <| .new e29 <| .new e30 <| .new e31 <| .nil) ?_
      clear e26 e27 e28 e29 e30 e31
      obtain ⟨ngA, aA, mA, cA, rfl⟩ := hT2.agg
      have hzA := (hB'.block _ (Nat.lt_of_lt_of_le (lt_of_heap HZ5.out) HB9.out.size)).trans ((HB9.out.block _ (lt_of_heap HZ5.out)).trans HZ5.out)
      obtain ⟨_, t0, t1, tf0, tf1⟩ := two_cells hzA
      have hbA := HB5.out.trans ((HB9.out.trans (hB'.mono HB9.out.size)).mono (by have := HB5.out.size; omega))
      have HE := hide (w2_end (K := g0) (M := M) (n := g0) (Nat.le_succ g0) hzA hbA (hT2.fit HM.out))
      clear hn' hd' hR' hP' hB' hT2 hzA hbA
      go_wp2
      exact bodyPost_ret (v := _) (res_c (g := g0 + 1) rfl rfl HE.out.2.2) rfl ⟨_, rfl, HE.out.1, HE.out.2.1⟩
end Lm
end Go.Proofs.Ytodgiglhconkoaa

namespace Go.Proofs.Ytodgiglhconkoaa
namespace Lm
open Go Go.RowKit
def waits (ops : Array Oper) : Nat → Nat → Nat → Bool
  | 0, _, _ => false
  | f + 1, i, j => match ops[i]? with
    | some o => o.after.any fun e => Region.binds .any e && (e.on == j || waits ops f e.on j)
    | none => false
def Shut (ops : Array Oper) (l : Array Bool) : Prop := ∀ j o, ops[j]? = some o → l.getD j false = true → ∀ e ∈ o.after, Region.binds .any e = true → l.getD e.on false = true
theorem waits_done {ops : Array Oper} {l : Array Bool} (hc : Shut ops l) : ∀ f i j o, ops[i]? = some o → (∀ e ∈ o.after, Region.binds .any e = true → l.getD e.on false = true) → waits ops f i j = true → l.getD j false = true
  | 0, _, _, _, _, _, h => by simp [waits] at h
  | f + 1, i, j, o, ho, hl, h => by
    rw [waits, ho] at h
    simp only at h
    rw [← Array.any_toList] at h
    obtain ⟨e, he, h3⟩ := List.any_eq_true.1 h
    replace he := Array.mem_toList_iff.1 he
    simp only [Bool.and_eq_true, Bool.or_eq_true, beq_iff_eq] at h3
    obtain ⟨hb, h3⟩ := h3
    have hd := hl e he hb
    rcases h3 with h3 | h3
    · rw [← h3]; exact hd
    · cases hq : ops[e.on]? with
      | none => cases f <;> simp [waits, hq] at h3
      | some q => exact waits_done hc f e.on j q hq (hc e.on q hq hd) h3
theorem Shut.set {ops : Array Oper} {l : Array Bool} {i : Nat} {o : Oper} (hc : Shut ops l) (ho : ops[i]? = some o) (hd : ∀ e ∈ o.after, Region.binds .any e = true → l.getD e.on false = true) : Shut ops (l.setIfInBounds i true) := by
  intro j q hq hj e he hb
  have up : l.getD e.on false = true → (l.setIfInBounds i true).getD e.on false = true := fun h => by
    by_cases hei : e.on = i
    · have hlt : e.on < l.size := by
        apply Classical.byContradiction
        intro hn
        rw [Array.getD_eq_getD_getElem?, Array.getElem?_eq_none (by omega)] at h
        cases h
      rw [hei, Array.getD_eq_getD_getElem?, Array.getElem?_setIfInBounds_self_of_lt (by omega)]
      rfl
    · rw [getD_set_ne false (fun h => hei h.symm)]
      exact h
  by_cases hji : j = i
  · subst hji
    obtain rfl : o = q := by rw [ho] at hq; exact Option.some.inj hq
    exact up (hd e he hb)
  · rw [getD_set_ne false (fun h => hji h.symm)] at hj
    exact up (hc j q hq hj e he hb)
theorem region_tail2 {P : Program} {ops : Array Oper} {Q : Exit → Act → World → Prop} {id n : Nat} {a : Act} {w : World} (m : Nat) (Ds : List Nat) (Ps : List Says) (hm : P.follows .mixedOrders = true) (hn : a.tmps.size = n) (hnd : Ds.Nodup) (hlt : (Ds.all fun d => decide (d < n)) = true)
    (hdep : (ops.toList.zipIdx.all fun p => p.1.after.all fun e => decide (e.on < p.2)) = true) (hms : m ≤ ops.size) (hall : ((List.range ops.size).all fun i => decide (i < m) || (List.range i).all fun j => waits ops ops.size i j) = true) (hM : Monos Ps) (hD : Duties P n Ds Ps a w (ops.toList.take m) Ds Ps)
    (hend : ∀ a' w', a'.tmps.size = n → a'.defers = a.defers → Below w.heap.size w w' → Rest Ds a a' → (∀ j, j < Ds.length → Ps.getD j (fun _ _ => True) (a'.eval (.tmp (Ds.getD j 0))) w') → wpList P ops Q (ops.toList.drop m) a' w') : (Code.region id ops true).wp P Q a w := by
  obtain ⟨hlen, hat⟩ := hD.take hms
  have hL : ∀ k, k ≤ ops.size → wpOps P ops Q (List.range' k (ops.size - k)) = wpList P ops Q (ops.toList.drop k) := fun k hk => by
    have := wpOps_eq_wpList (P := P) (ops := ops) (Q := Q) (ops.toList.drop k) k (fun j => by rw [List.getElem?_drop, Array.getElem?_toList])
    rw [← this]
    simp
  have hneed : ∀ i o, ops[i]? = some o → m ≤ i → ∀ l : Array Bool, Shut ops l → (∀ e ∈ o.after, Region.binds .any e = true → l.getD e.on false = true) → ∀ j, j < i → l.getD j false = true := by
    intro i o ho hi l hc hl j hj
    have hio : i < ops.size := (Array.getElem?_eq_some_iff.1 ho).1
    have h1 := List.all_eq_true.1 hall i (List.mem_range.2 hio)
    simp only [Bool.or_eq_true, decide_eq_true_eq] at h1
    rcases h1 with h1 | h1
    · omega
    · exact waits_done hc _ i j o ho hl (List.all_eq_true.1 h1 j (List.mem_range.2 hj))
  refine wp_region_inv hm (fun l a' w' => (l.size = ops.size ∧ Shut ops l) ∧ (((∀ j, m ≤ j → l.getD j false = false) ∧ Mid n Ds Ps a w (l.extract 0 m) a' w') ∨ ∃ j, m < j ∧ j ≤ ops.size ∧ (∀ k, k < j → l.getD k false = true) ∧ (∀ k, j ≤ k → l.getD k false = false) ∧ wpOps P ops Q (List.range' j (ops.size - j)) a' w')) ?_ ?_ ?_
  · refine ⟨⟨by simp, fun j o _ hj => ?_⟩, .inl ⟨fun j _ => ?_, by simp [hlen]; omega, hn, rfl, Below.drew (Below.refl _ _), fun _ _ => rfl, fun j hj => ?_⟩⟩
    · exfalso
      simp [Array.getElem?_replicate] at hj
      split at hj <;> simp at hj
    · simp [Array.getElem?_replicate]
      split <;> simp
    · exfalso
      by_cases hjm : j < m
      · rw [getD_extract hjm] at hj
        simp [Array.getElem?_replicate] at hj
        split at hj <;> simp at hj
      · rw [Array.getD_eq_getD_getElem?, Array.getElem?_eq_none (by simp; omega)] at hj
        simp at hj
  · rintro l a' w' ⟨⟨hs, hcl⟩, hI⟩ hr
    have hal := all_listed hdep hs hr
    rcases hI with ⟨h1, h2, h3, h4, h5, h6, h7⟩ | ⟨j, hj1, hj2, hj3, hj4, hj5⟩
    · have hmo : m = ops.size := by
        apply Classical.byContradiction
        intro hne
        have := hal m (by omega)
        rw [h1 m (Nat.le_refl _)] at this
        cases this
      have := hend a' w' h3 h4 h5 h6 (fun j hj => h7 j (by rw [getD_extract (by omega)]; exact hal j (by omega)))
      rw [List.drop_eq_nil_of_le (by simp; omega)] at this
      exact this
    · have hje : j = ops.size := by
        apply Classical.byContradiction
        intro hne
        have := hal j (by omega)
        rw [hj4 j (Nat.le_refl _)] at this
        cases this
      subst hje
      simpa [wpOps] using hj5
  · rintro l a' w' ⟨⟨hs, hcl⟩, hI⟩ i hi
    obtain ⟨hun, o, ho, hdeps⟩ := mem_ready.1 hi
    have hio : i < ops.size := (Array.getElem?_eq_some_iff.1 ho).1
    have hset : ∀ k, k ≠ i → (l.setIfInBounds i true).getD k false = l.getD k false := fun k hk => getD_set_ne false (fun e => hk e.symm)
    have hseti : (l.setIfInBounds i true).getD i false = true := by
      rw [Array.getD_eq_getD_getElem?, Array.getElem?_setIfInBounds_self_of_lt (by omega)]
      rfl
    have hif : l.getD i false = false := by
      rw [Array.getD_eq_getD_getElem?] at hun ⊢
      cases hc : l[i]? with
      | none => rfl
      | some b => rw [hc] at hun; simpa using hun
    have hcl' : Shut ops (l.setIfInBounds i true) := hcl.set ho hdeps
    have hrun : ∀ j, j = i → wpOps P ops Q (List.range' j (ops.size - j)) a' w' → m ≤ j → (∀ k, k < j → l.getD k false = true) → (∀ k, j ≤ k → l.getD k false = false) → wpOp P ops Q i (fun a' w' => ((l.setIfInBounds i true).size = ops.size ∧ Shut ops (l.setIfInBounds i true)) ∧ (((∀ j, m ≤ j → (l.setIfInBounds i true).getD j false = false) ∧ Mid n Ds Ps a w ((l.setIfInBounds i true).extract 0 m) a' w') ∨ ∃ j, m < j ∧ j ≤ ops.size ∧ (∀ k, k < j → (l.setIfInBounds i true).getD k false = true) ∧ (∀ k, j ≤ k → (l.setIfInBounds i true).getD k false = false) ∧ wpOps P ops Q (List.range' j (ops.size - j)) a' w')) a' w' := by
      rintro j rfl hw hmj hlo hhi
      rw [show ops.size - j = (ops.size - (j + 1)) + 1 by omega, List.range'_succ, wpOps_cons] at hw
      refine wpOp_mono (fun a2 w2 h => ⟨⟨by simpa using hs, hcl'⟩, .inr ⟨j + 1, by omega, by omega, fun k hk => ?_, fun k hk => ?_, h⟩⟩) hw
      · by_cases e : k = j
        · subst e; exact hseti
        · rw [hset k e]; exact hlo k (by omega)
      · rw [hset k (by omega)]; exact hhi k (by omega)
    rcases hI with ⟨h1, hmid⟩ | ⟨j, hj1, hj2, hj3, hj4, hj5⟩
    · by_cases him : i < m
      · have hd' : ∀ e ∈ o.after, Region.binds .any e = true → (l.extract 0 m).getD e.on false = true := fun e he hb => by
          have h2 := List.all_eq_true.1 hdep (o, i) (by rw [List.mem_zipIdx_iff_getElem?]; simpa using ho)
          have h3 : e.on < i := by simpa using Array.all_eq_true_iff_forall_mem.1 h2 e he
          rw [getD_extract (by omega)]
          exact hdeps e he hb
        refine wpOp_mono (fun a2 w2 h => ⟨⟨by simpa using hs, hcl'⟩, .inl ⟨fun k hk => ?_, ?_⟩⟩) (duty_one hat (by omega) hnd hlt hM ho (by omega) hmid hd')
        · rw [hset k (by omega)]
          exact h1 k hk
        · rw [extract_set]
          exact h
      · have hpre := hneed i o ho (by omega) l hcl hdeps
        have hie : i = m := by
          apply Classical.byContradiction
          intro hne
          have := hpre m (by omega)
          rw [h1 m (Nat.le_refl _)] at this
          cases this
        subst hie
        obtain ⟨h2, h3, h4, h5, h6, h7⟩ := hmid
        have hw := hend a' w' h3 h4 h5 h6 (fun j hj => h7 j (by rw [getD_extract (by omega)]; exact hpre j (by omega)))
        rw [← hL _ hms] at hw
        exact hrun i rfl hw (Nat.le_refl _) hpre h1
    · have hij : i = j := by
        apply Classical.byContradiction
        intro hne
        by_cases hlt' : i < j
        · rw [hj3 i hlt'] at hif
          cases hif
        · have := hneed i o ho (by omega) l hcl hdeps j (by omega)
          rw [hj4 j (Nat.le_refl _)] at this
          cases this
      exact hrun j hij.symm hj5 (by omega) hj3 hj4
end Lm
end Go.Proofs.Ytodgiglhconkoaa

namespace Go.Proofs.Ytodgiglhconkoaa
namespace Lm
open Go Go.RowKit
structure Tch (g : Nat) (w w' : World) : Prop where
  os : w'.os = w.os
  tape : w'.tape = w.tape
  output : w'.output = w.output
  size : w.heap.size ≤ w'.heap.size
  other : ∀ k, k < w.heap.size → k ≠ g → w'.heap[k]? = w.heap[k]?
theorem Tch.of_below {g : Nat} {w w' : World} (h : Below w.heap.size w w') : Tch g w w' := ⟨h.os, h.tape, h.output, h.size, fun k hk _ => h.block k hk⟩
theorem Tch.of_grown {g : Nat} {w w' : World} {r : Option Nat} (h : w.grownBy w' r) (hr : ∀ k, r = some k → k = g) : Tch g w w' := ⟨h.os, h.tape, h.output, h.size, fun k hk hn => h.block k hk (fun e => hn (hr k e.symm))⟩
theorem Tch.trans {g : Nat} {w w' w'' : World} (h : Tch g w w') (h' : Tch g w' w'') : Tch g w w'' := ⟨h'.os.trans h.os, h'.tape.trans h.tape, h'.output.trans h.output, Nat.le_trans h.size h'.size, fun k hk hn => (h'.other k (Nat.lt_of_lt_of_le hk h.size) hn).trans (h.other k hk hn)⟩
theorem Tch.below {g B : Nat} {w w' : World} (h : Tch g w w') (hB : B ≤ w.heap.size) (hg : B ≤ g) : Below B w w' := ⟨h.os, h.tape, h.output, h.size, fun k hk => h.other k (by omega) (by omega)⟩
def Mid3 (n g ix : Nat) (Ds : List Nat) (Ps : List Says) (a0 : Act) (w0 : World) (l : Array Bool) (a : Act) (w : World) : Prop :=
  l.size = Ds.length ∧ a.tmps.size = n ∧ a.defers = a0.defers ∧ Tch g w0 w ∧ Rest Ds a0 a ∧ (∀ j, l.getD j false = true → Ps.getD j (fun _ _ => True) (a.eval (.tmp (Ds.getD j 0))) w) ∧ (l.getD ix false = false → w.heap[g]? = w0.heap[g]?)
def MonosT (g ix : Nat) (Ps : List Says) : Prop := ∀ j, j ≠ ix → ∀ v w w', Tch g w w' → Ps.getD j (fun _ _ => True) v w → Ps.getD j (fun _ _ => True) v w'
def Duty3 (P : Program) (n g ix : Nat) (Ds : List Nat) (Ps : List Says) (a0 : Act) (w0 : World) (i : Nat) (o : Oper) (d : Nat) (p : Says) : Prop :=
  o.dst = some d ∧ o.guard = none ∧ ∀ a w, a.tmps.size = n → Tch g w0 w → Rest Ds a0 a → Deps Ds Ps o a w → (i ≠ ix → Does P o a.eval w fun v w' => Below w.heap.size w w' ∧ p v w') ∧ (i = ix → w.heap[g]? = w0.heap[g]? → Does P o a.eval w fun v w' => Tch g w w' ∧ p v w')
def Duties3 (P : Program) (n g ix : Nat) (Ds : List Nat) (Ps : List Says) (a0 : Act) (w0 : World) : Nat → List Oper → List Nat → List Says → Prop
  | _, [], [], [] => True
  | i, o :: os, d :: ds, p :: ps => Duty3 P n g ix Ds Ps a0 w0 i o d p ∧ Duties3 P n g ix Ds Ps a0 w0 (i + 1) os ds ps
  | _, _, _, _ => False
theorem Duties3.at {P : Program} {n g ix : Nat} {Ds : List Nat} {Ps : List Says} {a0 : Act} {w0 : World} : ∀ {m : Nat} {os : List Oper} {ds : List Nat} {ps : List Says}, Duties3 P n g ix Ds Ps a0 w0 m os ds ps → ds.length = os.length ∧ ∀ i o, os[i]? = some o → Duty3 P n g ix Ds Ps a0 w0 (m + i) o (ds.getD i 0) (ps.getD i fun _ _ => True)
  | _, [], [], [], _ => ⟨rfl, fun i o h => by simp at h⟩
  | m, o :: os, d :: ds, p :: ps, h => by
    obtain ⟨h1, h2⟩ := h
    obtain ⟨hl, h3⟩ := Duties3.at h2
    refine ⟨by simp [hl], fun i o' ho => ?_⟩
    cases i with
    | zero =>
      simp only [List.getElem?_cons_zero, Option.some.injEq] at ho
      subst ho
      simpa using h1
    | succ i =>
      have := h3 i o' (by simpa using ho)
      rw [show m + 1 + i = m + (i + 1) by omega] at this
      simpa using this
  | _, [], _ :: _, _, h => h.elim
  | _, [], [], _ :: _, h => h.elim
  | _, _ :: _, [], _, h => h.elim
  | _, _ :: _, _ :: _, [], h => h.elim
theorem Duties3.take {P : Program} {n g ix : Nat} {Ds : List Nat} {Ps : List Says} {a0 : Act} {w0 : World} {ops : Array Oper} {m : Nat} (h : Duties3 P n g ix Ds Ps a0 w0 0 (ops.toList.take m) Ds Ps) (hm : m ≤ ops.size) : Ds.length = m ∧ ∀ i o, ops[i]? = some o → i < Ds.length → Duty3 P n g ix Ds Ps a0 w0 i o (Ds.getD i 0) (Ps.getD i fun _ _ => True) := by
  obtain ⟨hl, hat⟩ := h.at
  have hl' : Ds.length = m := by rw [hl, List.length_take]; simp; omega
  refine ⟨hl', fun i o ho hi => ?_⟩
  have := hat i o (by rw [List.getElem?_take_of_lt (by omega), Array.getElem?_toList]; exact ho)
  rwa [Nat.zero_add] at this
theorem Mid3.put {n g ix : Nat} {Ds : List Nat} {Ps : List Says} {a0 : Act} {w0 : World} {l : Array Bool} {a : Act} {w w' : World} {i : Nat} {v : Value} (h : Mid3 n g ix Ds Ps a0 w0 l a w) (hi : i < Ds.length) (hnd : Ds.Nodup) (hlt : (Ds.all fun d => decide (d < n)) = true) (ht : Tch g w w') (hk : ∀ j, j ≠ i → l.getD j false = true → ∀ u, Ps.getD j (fun _ _ => True) u w → Ps.getD j (fun _ _ => True) u w') (hI : (l.setIfInBounds i true).getD ix false = false → w'.heap[g]? = w.heap[g]?) (hp : Ps.getD i (fun _ _ => True) v w') :
    Mid3 n g ix Ds Ps a0 w0 (l.setIfInBounds i true) (a.put (some (Ds.getD i 0)) v) w' := by
  obtain ⟨h1, h2, h3, h4, h5, h6, h7⟩ := h
  have hd : Ds.getD i 0 < n := by
    have := List.all_eq_true.1 hlt (Ds.getD i 0) (by rw [List.getD_eq_getElem?_getD, List.getElem?_eq_getElem hi]; simp)
    simpa using this
  refine ⟨by simp [h1], by rw [put_tmps]; simp [h2], h3, h4.trans ht, fun k hk => ?_, fun j hj => ?_, fun hx => ?_⟩
  · rw [eval_put_ne, h5 k hk]
    rintro rfl
    have : Ds.contains (Ds.getD i 0) = true := by
      rw [List.contains_iff_mem, List.getD_eq_getElem?_getD, List.getElem?_eq_getElem hi]
      simp
    rw [this] at hk
    cases hk
  · by_cases e : j = i
    · subst e
      rw [eval_put_same (by omega)]
      exact hp
    · rw [getD_set_ne false (fun h => e h.symm)] at hj
      have hjl : j < Ds.length := by
        rw [Array.getD_eq_getD_getElem?] at hj
        cases hc : l[j]? with
        | none => rw [hc] at hj; simp at hj
        | some b => rw [← h1]; exact (Array.getElem?_eq_some_iff.1 hc).1
      rw [eval_put_ne (nodup_getD hnd hi hjl (fun h => e h.symm))]
      exact hk j e hj _ (h6 j hj)
  · refine (hI hx).trans (h7 ?_)
    by_cases e : ix = i
    · subst e
      rw [Array.getD_eq_getD_getElem?, Array.getElem?_setIfInBounds_self_of_lt (by omega)] at hx
      cases hx
    · rwa [getD_set_ne false (fun h => e h.symm)] at hx
theorem duty_one3 {P : Program} {ops : Array Oper} {Q : Exit → Act → World → Prop} {n g ix : Nat} {Ds : List Nat} {Ps : List Says} {a0 : Act} {w0 : World} {l : Array Bool} {a : Act} {w : World} {i : Nat} {o : Oper} (hgw : g < w0.heap.size) (hat : ∀ i o, ops[i]? = some o → i < Ds.length → Duty3 P n g ix Ds Ps a0 w0 i o (Ds.getD i 0) (Ps.getD i fun _ _ => True)) (hnd : Ds.Nodup) (hlt : (Ds.all fun d => decide (d < n)) = true) (hM : Monos Ps) (hT : MonosT g ix Ps) (ho : ops[i]? = some o) (hil : i < Ds.length) (hun : l.getD i false = false) (h : Mid3 n g ix Ds Ps a0 w0 l a w) (hdeps : ∀ e ∈ o.after, Region.binds .any e = true → l.getD e.on false = true) :
    wpOp P ops Q i (fun a' w' => Mid3 n g ix Ds Ps a0 w0 (l.setIfInBounds i true) a' w') a w := by
  have h' := h
  obtain ⟨h1, h2, h3, h4, h5, h6, h7⟩ := h
  obtain ⟨hdst, hgd, hduty⟩ := hat i o ho hil
  obtain ⟨hd1, hd2⟩ := hduty a w h2 h4 h5 (fun j hj => by
    obtain ⟨e, he, hj⟩ := List.any_eq_true.1 hj
    simp only [Bool.and_eq_true, beq_iff_eq] at hj
    obtain ⟨rfl, hb⟩ := hj
    exact h6 _ (hdeps e (by simpa using he) hb))
  refine wpOp_step ho (fun K' hK => ?_)
  simp only [Region.wanted, hgd, if_true]
  by_cases hix : i = ix
  · subst hix
    refine Does.wp (hd2 rfl (h7 hun)) (fun v w' ⟨hb, hp⟩ => ?_)
    rw [hdst]
    refine hK _ _ (h'.put hil hnd hlt hb (fun j hj _ u hu => hT j hj u w w' hb hu) (fun hx => ?_) hp)
    rw [Array.getD_eq_getD_getElem?, Array.getElem?_setIfInBounds_self_of_lt (by omega)] at hx
    cases hx
  · refine Does.wp (hd1 hix) (fun v w' ⟨hb, hp⟩ => ?_)
    rw [hdst]
    exact hK _ _ (h'.put hil hnd hlt (.of_below hb) (fun j _ _ u hu => hM.at j u w w' hb hu) (fun _ => hb.block g (Nat.lt_of_lt_of_le hgw h4.size)) hp)
theorem region_tail3 {P : Program} {ops : Array Oper} {Q : Exit → Act → World → Prop} {id n : Nat} {a : Act} {w : World} (g ix m : Nat) (Ds : List Nat) (Ps : List Says) (hgw : g < w.heap.size) (hm : P.follows .mixedOrders = true) (hn : a.tmps.size = n) (hnd : Ds.Nodup) (hlt : (Ds.all fun d => decide (d < n)) = true)
    (hdep : (ops.toList.zipIdx.all fun p => p.1.after.all fun e => decide (e.on < p.2)) = true) (hms : m ≤ ops.size) (hall : ((List.range ops.size).all fun i => decide (i < m) || (List.range i).all fun j => waits ops ops.size i j) = true) (hM : Monos Ps) (hT : MonosT g ix Ps) (hD : Duties3 P n g ix Ds Ps a w 0 (ops.toList.take m) Ds Ps)
    (hend : ∀ a' w', a'.tmps.size = n → a'.defers = a.defers → Tch g w w' → Rest Ds a a' → (∀ j, j < Ds.length → Ps.getD j (fun _ _ => True) (a'.eval (.tmp (Ds.getD j 0))) w') → wpList P ops Q (ops.toList.drop m) a' w') : (Code.region id ops true).wp P Q a w := by
  obtain ⟨hlen, hat⟩ := hD.take hms
  have hL : ∀ k, k ≤ ops.size → wpOps P ops Q (List.range' k (ops.size - k)) = wpList P ops Q (ops.toList.drop k) := fun k hk => by
    have := wpOps_eq_wpList (P := P) (ops := ops) (Q := Q) (ops.toList.drop k) k (fun j => by rw [List.getElem?_drop, Array.getElem?_toList])
    rw [← this]
    simp
  have hneed : ∀ i o, ops[i]? = some o → m ≤ i → ∀ l : Array Bool, Shut ops l → (∀ e ∈ o.after, Region.binds .any e = true → l.getD e.on false = true) → ∀ j, j < i → l.getD j false = true := by
    intro i o ho hi l hc hl j hj
    have hio : i < ops.size := (Array.getElem?_eq_some_iff.1 ho).1
    have h1 := List.all_eq_true.1 hall i (List.mem_range.2 hio)
    simp only [Bool.or_eq_true, decide_eq_true_eq] at h1
    rcases h1 with h1 | h1
    · omega
    · exact waits_done hc _ i j o ho hl (List.all_eq_true.1 h1 j (List.mem_range.2 hj))
  refine wp_region_inv hm (fun l a' w' => (l.size = ops.size ∧ Shut ops l) ∧ (((∀ j, m ≤ j → l.getD j false = false) ∧ Mid3 n g ix Ds Ps a w (l.extract 0 m) a' w') ∨ ∃ j, m < j ∧ j ≤ ops.size ∧ (∀ k, k < j → l.getD k false = true) ∧ (∀ k, j ≤ k → l.getD k false = false) ∧ wpOps P ops Q (List.range' j (ops.size - j)) a' w')) ?_ ?_ ?_
  · refine ⟨⟨by simp, fun j o _ hj => ?_⟩, .inl ⟨fun j _ => ?_, by simp [hlen]; omega, hn, rfl, .of_below (Below.drew (Below.refl _ _)), fun _ _ => rfl, fun j hj => ?_, fun _ => rfl⟩⟩
    · exfalso
      simp [Array.getElem?_replicate] at hj
      split at hj <;> simp at hj
    · simp [Array.getElem?_replicate]
      split <;> simp
    · exfalso
      by_cases hjm : j < m
      · rw [getD_extract hjm] at hj
        simp [Array.getElem?_replicate] at hj
        split at hj <;> simp at hj
      · rw [Array.getD_eq_getD_getElem?, Array.getElem?_eq_none (by simp; omega)] at hj
        simp at hj
  · rintro l a' w' ⟨⟨hs, hcl⟩, hI⟩ hr
    have hal := all_listed hdep hs hr
    rcases hI with ⟨h1, h2, h3, h4, h5, h6, h7⟩ | ⟨j, hj1, hj2, hj3, hj4, hj5⟩
    · have hmo : m = ops.size := by
        apply Classical.byContradiction
        intro hne
        have := hal m (by omega)
        rw [h1 m (Nat.le_refl _)] at this
        cases this
      have := hend a' w' h3 h4 h5 h6 (fun j hj => h7.1 j (by rw [getD_extract (by omega)]; exact hal j (by omega)))
      rw [List.drop_eq_nil_of_le (by simp; omega)] at this
      exact this
    · have hje : j = ops.size := by
        apply Classical.byContradiction
        intro hne
        have := hal j (by omega)
        rw [hj4 j (Nat.le_refl _)] at this
        cases this
      subst hje
      simpa [wpOps] using hj5
  · rintro l a' w' ⟨⟨hs, hcl⟩, hI⟩ i hi
    obtain ⟨hun, o, ho, hdeps⟩ := mem_ready.1 hi
    have hio : i < ops.size := (Array.getElem?_eq_some_iff.1 ho).1
    have hset : ∀ k, k ≠ i → (l.setIfInBounds i true).getD k false = l.getD k false := fun k hk => getD_set_ne false (fun e => hk e.symm)
    have hseti : (l.setIfInBounds i true).getD i false = true := by
      rw [Array.getD_eq_getD_getElem?, Array.getElem?_setIfInBounds_self_of_lt (by omega)]
      rfl
    have hif : l.getD i false = false := by
      rw [Array.getD_eq_getD_getElem?] at hun ⊢
      cases hc : l[i]? with
      | none => rfl
      | some b => rw [hc] at hun; simpa using hun
    have hcl' : Shut ops (l.setIfInBounds i true) := hcl.set ho hdeps
    have hrun : ∀ j, j = i → wpOps P ops Q (List.range' j (ops.size - j)) a' w' → m ≤ j → (∀ k, k < j → l.getD k false = true) → (∀ k, j ≤ k → l.getD k false = false) → wpOp P ops Q i (fun a' w' => ((l.setIfInBounds i true).size = ops.size ∧ Shut ops (l.setIfInBounds i true)) ∧ (((∀ j, m ≤ j → (l.setIfInBounds i true).getD j false = false) ∧ Mid3 n g ix Ds Ps a w ((l.setIfInBounds i true).extract 0 m) a' w') ∨ ∃ j, m < j ∧ j ≤ ops.size ∧ (∀ k, k < j → (l.setIfInBounds i true).getD k false = true) ∧ (∀ k, j ≤ k → (l.setIfInBounds i true).getD k false = false) ∧ wpOps P ops Q (List.range' j (ops.size - j)) a' w')) a' w' := by
      rintro j rfl hw hmj hlo hhi
      rw [show ops.size - j = (ops.size - (j + 1)) + 1 by omega, List.range'_succ, wpOps_cons] at hw
      refine wpOp_mono (fun a2 w2 h => ⟨⟨by simpa using hs, hcl'⟩, .inr ⟨j + 1, by omega, by omega, fun k hk => ?_, fun k hk => ?_, h⟩⟩) hw
      · by_cases e : k = j
        · subst e; exact hseti
        · rw [hset k e]; exact hlo k (by omega)
      · rw [hset k (by omega)]; exact hhi k (by omega)
    rcases hI with ⟨h1, hmid⟩ | ⟨j, hj1, hj2, hj3, hj4, hj5⟩
    · by_cases him : i < m
      · have hd' : ∀ e ∈ o.after, Region.binds .any e = true → (l.extract 0 m).getD e.on false = true := fun e he hb => by
          have h2 := List.all_eq_true.1 hdep (o, i) (by rw [List.mem_zipIdx_iff_getElem?]; simpa using ho)
          have h3 : e.on < i := by simpa using Array.all_eq_true_iff_forall_mem.1 h2 e he
          rw [getD_extract (by omega)]
          exact hdeps e he hb
        refine wpOp_mono (fun a2 w2 h => ⟨⟨by simpa using hs, hcl'⟩, .inl ⟨fun k hk => ?_, ?_⟩⟩) (duty_one3 hgw hat hnd hlt hM hT ho (by omega) (by rw [getD_extract him]; exact hif) hmid hd')
        · rw [hset k (by omega)]
          exact h1 k hk
        · rw [extract_set]
          exact h
      · have hpre := hneed i o ho (by omega) l hcl hdeps
        have hie : i = m := by
          apply Classical.byContradiction
          intro hne
          have := hpre m (by omega)
          rw [h1 m (Nat.le_refl _)] at this
          cases this
        subst hie
        obtain ⟨h2, h3, h4, h5, h6, h7⟩ := hmid
        have hw := hend a' w' h3 h4 h5 h6 (fun j hj => h7.1 j (by rw [getD_extract (by omega)]; exact hpre j (by omega)))
        rw [← hL _ hms] at hw
        exact hrun i rfl hw (Nat.le_refl _) hpre h1
    · have hij : i = j := by
        apply Classical.byContradiction
        intro hne
        by_cases hlt' : i < j
        · rw [hj3 i hlt'] at hif
          cases hif
        · have := hneed i o ho (by omega) l hcl hdeps j (by omega)
          rw [hj4 j (Nat.le_refl _)] at this
          cases this
      exact hrun j hij.symm hj5 (by omega) hj3 hj4
end Lm
end Go.Proofs.Ytodgiglhconkoaa

namespace Go.Proofs.Ytodgiglhconkoaa
namespace Md
abbrev Rw := Nat → Int
def w (x : Rw) : (List Nat → Int) → List Nat → Int
  | _, [] => 0
  | g, c :: cs => x c * g cs - w x (fun l => g (c :: l)) cs
theorem w_congr (x : Rw) {g h : List Nat → Int} (e : ∀ l, g l = h l) (cs : List Nat) : w x g cs = w x h cs := by
  rw [show g = h from funext e]
theorem w_add (x : Rw) (g h : List Nat → Int) (cs : List Nat) : w x (fun l => g l + h l) cs = w x g cs + w x h cs := by
  induction cs generalizing g h with
  | nil => simp [w]
  | cons c cs ih => simp only [w, ih]; grind
theorem w_mul (x : Rw) (a : Int) (g : List Nat → Int) (cs : List Nat) : w x (fun l => a * g l) cs = a * w x g cs := by
  induction cs generalizing g with
  | nil => simp [w]
  | cons c cs ih => simp only [w, ih]; grind
theorem w_neg (x : Rw) (g : List Nat → Int) (cs : List Nat) : w x (fun l => -g l) cs = -w x g cs := by
  have := w_mul x (-1) g cs
  rw [show (fun l => -g l) = fun l => -1 * g l from funext fun l => by omega, this]
  omega
theorem w_sub (x : Rw) (g h : List Nat → Int) (cs : List Nat) : w x (fun l => g l - h l) cs = w x g cs - w x h cs := by
  have := w_add x g (fun l => -h l) cs
  rw [w_neg] at this
  rw [show (fun l => g l - h l) = fun l => g l + -h l from funext fun l => by omega, this]
  omega
theorem w_zero (x : Rw) (cs : List Nat) : w x (fun _ => 0) cs = 0 := by
  have := w_mul x 0 (fun _ => 0) cs
  simpa using this
theorem w_anti (x y : Rw) (g : List Nat → Int) (cs : List Nat) : w x (w y g) cs = -w y (w x g) cs := by
  induction cs generalizing g with
  | nil => simp [w]
  | cons c cs ih =>
    have h1 : ∀ (x y : Rw), w x (fun l => w y g (c :: l)) cs = y c * w x g cs - w x (w y (fun l => g (c :: l))) cs := by
      intro x y
      rw [← w_mul, ← w_sub]
      exact w_congr x (fun l => by rw [w]) cs
    rw [w, w, h1 x y, h1 y x, ih]
    omega
theorem w_lin (x y : Rw) (a b : Int) (g : List Nat → Int) (cs : List Nat) : w (fun c => a * x c + b * y c) g cs = a * w x g cs + b * w y g cs := by
  induction cs generalizing g with
  | nil => simp [w]
  | cons c cs ih => simp only [w, ih]; grind
theorem w_none {x : Rw} (g : List Nat → Int) (cs : List Nat) (h : ∀ c ∈ cs, x c = 0) : w x g cs = 0 := by
  induction cs generalizing g with
  | nil => rfl
  | cons c cs ih => rw [w, h c (by simp), ih _ (fun d hd => h d (by simp [hd]))]; omega
def Alt (g : List Nat → Int) : Prop := ∀ (p : List Nat) (a b : Nat) (q : List Nat), g (p ++ a :: b :: q) = -g (p ++ b :: a :: q)
theorem Alt.pre {g : List Nat → Int} (h : Alt g) (u : List Nat) : Alt (fun l => g (u ++ l)) := fun p a b q => by
  have := h (u ++ p) a b q
  simpa using this
theorem Alt.cons {g : List Nat → Int} (h : Alt g) (u : Nat) : Alt (fun l => g (u :: l)) := h.pre [u]
theorem Alt.w {g : List Nat → Int} (h : Alt g) (x : Rw) : Alt (Md.w x g) := by
  intro p
  induction p generalizing g with
  | nil =>
    intro a b q
    simp only [List.nil_append, Md.w]
    have h1 := w_congr x (g := fun l => g (a :: b :: l)) (h := fun l => -g (b :: a :: l)) (fun l => h [] a b l) q
    rw [w_neg] at h1
    omega
  | cons c p ih =>
    intro a b q
    simp only [List.cons_append, Md.w]
    have h1 := ih (h.cons c) a b q
    have h2 := h p a b q
    rw [h1, h2]
    grind
theorem Alt.two {g : List Nat → Int} (h : Alt g) (a : Nat) (p q : List Nat) : g (a :: (p ++ a :: q)) = 0 := by
  induction p generalizing g with
  | nil => have := h [] a a q; simp only [List.nil_append] at this ⊢; omega
  | cons b p ih =>
    have h1 := h [] a b (p ++ a :: q)
    have h2 := ih (h.cons b)
    simp only [List.nil_append, List.cons_append] at h1 h2 ⊢
    omega
theorem Alt.dup {g : List Nat → Int} (h : Alt g) {l : List Nat} (hl : ¬ l.Nodup) : g l = 0 := by
  induction l generalizing g with
  | nil => exact absurd List.nodup_nil hl
  | cons a l ih =>
    by_cases ha : a ∈ l
    · obtain ⟨p, q, rfl⟩ := List.append_of_mem ha
      exact h.two a p q
    · exact ih (h.cons a) (fun hn => hl (List.nodup_cons.2 ⟨ha, hn⟩))
def sgn : Nat → Int
  | 0 => 1
  | n + 1 => -sgn n
theorem sgn_sq (n : Nat) : sgn n * sgn n = 1 := by
  induction n with
  | zero => rfl
  | succ n ih => rw [sgn, Int.neg_mul_neg, ih]
theorem sgn_eq (n : Nat) : sgn n = if n % 2 = 1 then -1 else 1 := by
  induction n with
  | zero => rfl
  | succ n ih =>
    rw [sgn, ih]
    split <;> split <;> omega
theorem Alt.move {g : List Nat → Int} (h : Alt g) (c : Nat) (p q : List Nat) : g (c :: (p ++ q)) = sgn p.length * g (p ++ c :: q) := by
  induction p generalizing g with
  | nil => simp [sgn]
  | cons b p ih =>
    have h1 := h [] c b (p ++ q)
    have h2 := ih (h.cons b)
    simp only [List.nil_append, List.cons_append, List.length_cons, sgn] at h1 h2 ⊢
    rw [h1, h2]
    grind
def sub (p k : Nat) (l : List Nat) : List Nat := l.map (fun q => if q = p then k else q)
theorem sub_self (p : Nat) (l : List Nat) : sub p p l = l := by
  unfold sub
  conv => rhs; rw [← List.map_id l]
  apply List.map_congr_left
  intro q _
  split
  · next h => rw [h]; rfl
  · rfl
theorem sub_not {p : Nat} {l : List Nat} (h : p ∉ l) (k : Nat) : sub p k l = l := by
  unfold sub
  conv => rhs; rw [← List.map_id l]
  apply List.map_congr_left
  intro q hq
  rw [if_neg (fun e : q = p => h (by rw [← e]; exact hq))]
  rfl
theorem sub_cons (p k q : Nat) (l : List Nat) : sub p k (q :: l) = (if q = p then k else q) :: sub p k l := rfl
theorem sub_append (p k : Nat) (l m : List Nat) : sub p k (l ++ m) = sub p k l ++ sub p k m := by simp [sub]
theorem sub_dup {p k : Nat} {l : List Nat} (hp : p ∈ l) (hk : k ∈ l) (hne : k ≠ p) : ¬ (sub p k l).Nodup := by
  intro hn
  obtain ⟨i, hi, hi'⟩ := List.mem_iff_getElem.1 hp
  obtain ⟨j, hj, hj'⟩ := List.mem_iff_getElem.1 hk
  have hij : i ≠ j := fun e => by subst e; exact hne (hj'.symm.trans hi')
  have h1 : (sub p k l)[i]'(by simpa [sub] using hi) = k := by simp [sub, hi']
  have h2 : (sub p k l)[j]'(by simpa [sub] using hj) = k := by simp [sub, hj', hne]
  exact hij ((List.getElem_inj hn).1 (h1.trans h2.symm))
def sumL (f : Nat → Int) : List Nat → Int
  | [] => 0
  | q :: l => f q + sumL f l
theorem sumL_congr {f h : Nat → Int} {l : List Nat} (e : ∀ q ∈ l, f q = h q) : sumL f l = sumL h l := by
  induction l with
  | nil => rfl
  | cons q l ih => rw [sumL, sumL, e q (by simp), ih (fun r hr => e r (by simp [hr]))]
theorem Alt.expand {g : List Nat → Int} (h : Alt g) (x : Rw) (k : Nat) {Q : List Nat} (hn : Q.Nodup) : Md.w x (fun l => g (k :: l)) Q = sumL (fun p => x p * g (sub p k Q)) Q := by
  induction Q generalizing g with
  | nil => rfl
  | cons q Q ih =>
    obtain ⟨h1, h2⟩ := List.nodup_cons.1 hn
    rw [Md.w, sumL, sub_cons, if_pos rfl, sub_not h1]
    have e : Md.w x (fun l => g (k :: q :: l)) Q = -Md.w x (fun l => g (q :: k :: l)) Q := by
      rw [← w_neg]
      exact w_congr x (fun l => h [] k q l) Q
    rw [e, ih (h.cons q) h2]
    have : sumL (fun p => x p * g (q :: sub p k Q)) Q = sumL (fun p => x p * g (sub p k (q :: Q))) Q := by
      apply sumL_congr
      intro p hp
      rw [sub_cons, if_neg (fun e : q = p => h1 (by rw [e]; exact hp))]
    rw [this]
    omega
def D : List Rw → List Nat → Int
  | [] => fun l => if l = [] then 1 else 0
  | x :: R => w x (D R)
theorem D_alt (R : List Rw) : Alt (D R) := by
  induction R with
  | nil =>
    intro p a b q
    have : ∀ l : List Nat, l ≠ [] → D [] l = 0 := fun l h => if_neg h
    rw [this _ (by simp), this _ (by simp)]
    rfl
  | cons x R ih => exact ih.w x
inductive Sp (R : List Rw) : Rw → Prop
  | zero : Sp R (fun _ => 0)
  | add (a : Int) (x y : Rw) (hx : x ∈ R) (hy : Sp R y) : Sp R (fun c => a * x c + y c)
theorem Sp.mono {R S : List Rw} {x : Rw} (h : Sp R x) (hs : ∀ y ∈ R, y ∈ S) : Sp S x := by
  induction h with
  | zero => exact .zero
  | add a x y hx _ ih => exact .add a x y (hs x hx) ih
theorem Sp.lin {R : List Rw} {x y : Rw} (hx : Sp R x) (hy : Sp R y) (a b : Int) : Sp R (fun c => a * x c + b * y c) := by
  induction hx with
  | zero =>
    induction hy with
    | zero => simpa using Sp.zero
    | add e u v hu _ ih =>
      have := Sp.add (b * e) u _ hu ih
      refine cast (congrArg (Sp R) (funext fun c => ?_)) this
      grind
  | add e u v hu _ ih =>
    have := Sp.add (a * e) u _ hu ih
    refine cast (congrArg (Sp R) (funext fun c => ?_)) this
    grind
theorem Sp.mem {R : List Rw} {x : Rw} (h : x ∈ R) : Sp R x := by
  have := Sp.add 1 x _ h Sp.zero
  refine cast (congrArg (Sp R) (funext fun c => ?_)) this
  grind
theorem Sp.smul {R : List Rw} {x : Rw} (h : Sp R x) (a : Int) : Sp R (fun c => a * x c) := by
  have := h.lin Sp.zero a 0
  refine cast (congrArg (Sp R) (funext fun c => ?_)) this
  grind
theorem sp_w {R : List Rw} (x : Rw) (g : Nat → List Nat → Int) (h : ∀ l, Sp R (fun c => g c l)) (cs : List Nat) : Sp R (fun c => w x (g c) cs) := by
  induction cs generalizing g with
  | nil => exact .zero
  | cons d cs ih =>
    have := (h cs).lin (ih (fun c l => g c (d :: l)) (fun l => h (d :: l))) (x d) (-1)
    refine cast (congrArg (Sp R) (funext fun c => ?_)) this
    rw [w]
    grind
theorem sp_head (R : List Rw) (cs : List Nat) : Sp R (fun c => D R (c :: cs)) := by
  induction R generalizing cs with
  | nil => exact Sp.zero
  | cons x R ih =>
    have h1 := (sp_w x (fun c l => D R (c :: l)) (fun l => ih l) cs).mono (S := x :: R) (fun y hy => by simp [hy])
    have := (Sp.mem (R := x :: R) (x := x) (by simp)).lin h1 (D R cs) (-1)
    refine cast (congrArg (Sp (x :: R)) (funext fun c => ?_)) this
    rw [D, w]
    grind
theorem sub_split {p : Nat} {Q : List Nat} (hn : Q.Nodup) (hp : p ∈ Q) : ∃ a b, Q = a ++ p :: b ∧ ∀ k, sub p k Q = a ++ k :: b := by
  obtain ⟨a, b, rfl⟩ := List.append_of_mem hp
  refine ⟨a, b, rfl, fun k => ?_⟩
  have h1 := List.nodup_append.1 hn
  have h2 := (List.nodup_cons.1 h1.2.1).1
  have h3 : p ∉ a := fun h => h1.2.2 p h p (by simp) rfl
  rw [sub_append, sub_cons, if_pos rfl, sub_not h3, sub_not h2]
theorem sp_sub (R : List Rw) {p : Nat} {Q : List Nat} (hn : Q.Nodup) (hp : p ∈ Q) : Sp R (fun k => D R (sub p k Q)) := by
  obtain ⟨a, b, _, h⟩ := sub_split hn hp
  have h1 := (sp_head R (a ++ b)).smul (sgn a.length)
  refine cast (congrArg (Sp R) (funext fun c => ?_)) h1
  rw [h c, (D_alt R).move c a b, ← Int.mul_assoc, sgn_sq, Int.one_mul]
theorem D_row {R : List Rw} {r : Rw} (h : r ∈ R) (cs : List Nat) : w r (D R) cs = 0 := by
  induction R generalizing cs with
  | nil => cases h
  | cons y R ih =>
    have h1 := w_anti r y (D R) cs
    rw [show D (y :: R) = w y (D R) from rfl, h1]
    rcases List.mem_cons.1 h with rfl | h
    · have := w_anti r r (D R) cs
      omega
    · rw [w_congr y (fun l => ih h l) cs, w_zero]
      rfl
theorem D_sp {R : List Rw} {x : Rw} (h : Sp R x) (cs : List Nat) : w x (D R) cs = 0 := by
  induction h with
  | zero => exact w_none _ _ (fun _ _ => rfl)
  | add a x y hx _ ih =>
    have := w_lin x y a 1 (D R) cs
    rw [show (fun c => a * x c + y c) = fun c => a * x c + 1 * y c from funext fun c => by omega, this, ih, D_row hx]
    omega
theorem sp_zero {R : List Rw} {x : Rw} (h : Sp R x) {Q : List Nat} (hd : D R Q ≠ 0) (hz : ∀ q ∈ Q, x q = 0) (k : Nat) : x k = 0 := by
  have h1 := D_sp h (k :: Q)
  rw [w, w_none _ Q hz] at h1
  have h2 : x k * D R Q = 0 := by omega
  rcases Int.mul_eq_zero.1 h2 with h | h
  · exact h
  · exact absurd h hd
theorem left_eq (R : List Rw) (x : Rw) {Q : List Nat} (hn : Q.Nodup) (k : Nat) : D (x :: R) (k :: Q) = D R Q * x k - sumL (fun p => x p * D R (sub p k Q)) Q := by
  rw [D, w, (D_alt R).expand x k hn]
  grind
theorem left_zero (R : List Rw) {Q : List Nat} {k : Nat} (hk : k ∈ Q) : D R (k :: Q) = 0 := (D_alt R).dup (fun hn => (List.nodup_cons.1 hn).1 hk)
theorem step_eq (R : List Rw) (x : Rw) {Q a b : List Nat} {c : Nat} (hQ : Q = a ++ b) (hn : (a ++ c :: b).Nodup) (h1 : D (x :: R) (a ++ c :: b) ≠ 0) {p : Nat} (hp : p ∈ Q) (k : Nat) :
    D R Q * D (x :: R) (sub p k (a ++ c :: b)) = D (x :: R) (a ++ c :: b) * D R (sub p k Q) - D R (sub p c Q) * D (x :: R) (sub c k (a ++ c :: b)) := by
  have hc : c ∈ a ++ c :: b := by simp
  have hp' : p ∈ a ++ c :: b := by rw [hQ] at hp; simp at hp ⊢; rcases hp with h | h <;> simp [h]
  have hnQ : Q.Nodup := by rw [hQ]; exact hn.sublist (by simp)
  have hcQ : c ∉ Q := by
    have h2 := List.nodup_append.1 hn
    rw [hQ, List.mem_append, not_or]
    exact ⟨fun h => h2.2.2 c h c (by simp) rfl, (List.nodup_cons.1 h2.2.1).1⟩
  have hcp : c ≠ p := fun e => hcQ (e ▸ hp)
  have s1 := (sp_sub (x :: R) hn hp').smul (D R Q)
  have s2 := ((sp_sub R hnQ hp).mono (S := x :: R) (fun y hy => by simp [hy]))
  have s3 := (sp_sub (x :: R) hn hc)
  have s4 := s2.lin s3 (-D (x :: R) (a ++ c :: b)) (D R (sub p c Q))
  have s5 := s1.lin s4 1 1
  have key := sp_zero s5 h1 (fun q hq => ?_) k
  · grind
  · by_cases e1 : q = p
    · subst e1
      rw [sub_self, sub_self, (D_alt (x :: R)).dup (sub_dup hc hp' (fun e => hcp e.symm))]
      grind
    · rw [(D_alt (x :: R)).dup (sub_dup hp' hq e1)]
      by_cases e2 : q = c
      · subst e2
        rw [sub_self]
        grind
      · have hqQ : q ∈ Q := by
          rw [hQ]
          simp only [List.mem_append, List.mem_cons] at hq ⊢
          rcases hq with h | h | h
          · exact .inl h
          · exact absurd h e2
          · exact .inr h
        rw [(D_alt R).dup (sub_dup hp hqQ e1), (D_alt (x :: R)).dup (sub_dup hc hq e2)]
        grind
theorem w_le {x : Rw} {g : List Nat → Int} {X G : Int} (N : Nat) (hX : 0 ≤ X) (hG : 0 ≤ G) (cs : List Nat) (hx : ∀ c ∈ cs, (x c).natAbs ≤ X) (hg : ∀ l, (∀ c ∈ l, c ∈ cs) → (g l).natAbs ≤ G) (hN : cs.length ≤ N) : ((w x g cs).natAbs : Int) ≤ N * (X * G) := by
  have hXG : 0 ≤ X * G := Int.mul_nonneg hX hG
  induction cs generalizing g N with
  | nil => simp [w]; exact Int.mul_nonneg (by omega) hXG
  | cons c cs ih =>
    match N, hN with
    | N + 1, hN =>
      have h1 := ih (g := fun l => g (c :: l)) N (fun d hd => hx d (by simp [hd])) (fun l hl => hg (c :: l) (fun d hd => by
        rcases List.mem_cons.1 hd with rfl | h
        · simp
        · simp [hl d h])) (by simp at hN; omega)
      have h2 : ((x c * g cs).natAbs : Int) ≤ X * G := by
        rw [Int.natAbs_mul, Int.natCast_mul]
        exact Int.mul_le_mul (hx c (by simp)) (hg cs (fun d hd => by simp [hd])) (by omega) hX
      have h3 : (((x c * g cs) - w x (fun l => g (c :: l)) cs).natAbs : Int) ≤ ((x c * g cs).natAbs : Int) + ((w x (fun l => g (c :: l)) cs).natAbs : Int) := by omega
      rw [w, Int.natCast_add, Int.add_mul]
      omega
end Md
end Go.Proofs.Ytodgiglhconkoaa

namespace Go.Proofs.Ytodgiglhconkoaa
namespace Md
structure Gat (cols : Nat) (R : List Rw) (Q : List Nat) : Prop where
  desc : Q.Pairwise (· > ·)
  lt : ∀ q ∈ Q, q < cols
  ne : D R Q ≠ 0
  led : ∀ p ∈ Q, ∀ k, k < p → D R (sub p k Q) = 0
theorem gat_nil (cols : Nat) : Gat cols [] [] := ⟨.nil, fun q hq => (by cases hq), by decide, fun p hp => (by cases hp)⟩
theorem desc_nodup {Q : List Nat} (h : Q.Pairwise (· > ·)) : Q.Nodup := h.imp (fun h => by omega)
theorem Gat.not_mem {R : List Rw} {Q : List Nat} {x : Rw} {c : Nat} (h : D (x :: R) (c :: Q) ≠ 0) : c ∉ Q := fun hc => h (left_zero (x :: R) hc)
theorem Gat.take {cols : Nat} {R : List Rw} {Q a b : List Nat} (G : Gat cols R Q) {x : Rw} {c : Nat} (hc : c < cols) (h0 : ∀ k, k < c → D (x :: R) (k :: Q) = 0) (hne : D (x :: R) (c :: Q) ≠ 0) (hQ : Q = a ++ b) (ha : ∀ x ∈ a, c < x) (hb : ∀ x ∈ b, x < c) :
    Gat cols (x :: R) (a ++ c :: b) ∧ (∀ k, D (x :: R) (sub c k (a ++ c :: b)) = sgn a.length * D (x :: R) (k :: Q)) ∧ D (x :: R) (a ++ c :: b) = sgn a.length * D (x :: R) (c :: Q) ∧ ∀ p ∈ Q, ∀ k, D R Q * D (x :: R) (sub p k (a ++ c :: b)) = D (x :: R) (a ++ c :: b) * D R (sub p k Q) - D R (sub p c Q) * D (x :: R) (sub c k (a ++ c :: b)) := by
  have hd : (a ++ c :: b).Pairwise (· > ·) := by
    have h1 := G.desc
    rw [hQ, List.pairwise_append] at h1
    rw [List.pairwise_append, List.pairwise_cons]
    refine ⟨h1.1, ⟨fun y hy => hb y hy, h1.2.1⟩, fun u hu v hv => ?_⟩
    rcases List.mem_cons.1 hv with rfl | hv
    · exact ha u hu
    · exact h1.2.2 u hu v hv
  have hn := desc_nodup hd
  have hca : c ∉ a := fun h => by have := ha c h; omega
  have hcb : c ∉ b := fun h => by have := hb c h; omega
  have hsub : ∀ k, sub c k (a ++ c :: b) = a ++ k :: b := fun k => by rw [sub_append, sub_cons, if_pos rfl, sub_not hca, sub_not hcb]
  have hmove : ∀ k, D (x :: R) (a ++ k :: b) = sgn a.length * D (x :: R) (k :: Q) := fun k => by
    rw [hQ, (D_alt (x :: R)).move k a b, ← Int.mul_assoc, sgn_sq, Int.one_mul]
  have hne' : D (x :: R) (a ++ c :: b) ≠ 0 := by
    rw [hmove]
    intro e
    rcases Int.mul_eq_zero.1 e with e | e
    · have := sgn_sq a.length; rw [e] at this; simp at this
    · exact hne e
  have hstep : ∀ p ∈ Q, ∀ k, D R Q * D (x :: R) (sub p k (a ++ c :: b)) = D (x :: R) (a ++ c :: b) * D R (sub p k Q) - D R (sub p c Q) * D (x :: R) (sub c k (a ++ c :: b)) := fun p hp k => step_eq R x hQ hn hne' hp k
  have hz : ∀ k, k < c → D (x :: R) (sub c k (a ++ c :: b)) = 0 := fun k hk => by rw [hsub, hmove, h0 k hk, Int.mul_zero]
  refine ⟨⟨hd, fun q hq => ?_, hne', fun p hp k hk => ?_⟩, fun k => by rw [hsub, hmove], hmove c, hstep⟩
  · rcases List.mem_append.1 hq with h | h
    · exact G.lt q (by rw [hQ]; simp [h])
    · rcases List.mem_cons.1 h with rfl | h
      · exact hc
      · exact G.lt q (by rw [hQ]; simp [h])
  · by_cases hpc : p = c
    · subst hpc; exact hz k hk
    · have hpQ : p ∈ Q := by
        rw [hQ]
        rcases List.mem_append.1 hp with h | h
        · simp [h]
        · rcases List.mem_cons.1 h with h | h
          · exact absurd h hpc
          · simp [h]
      have h1 := hstep p hpQ k
      rw [G.led p hpQ k hk] at h1
      by_cases hcp : c < p
      · rw [G.led p hpQ c hcp] at h1
        have h2 : D R Q * D (x :: R) (sub p k (a ++ c :: b)) = 0 := by rw [h1]; simp
        rcases Int.mul_eq_zero.1 h2 with h | h
        · exact absurd h G.ne
        · exact h
      · rw [hz k (by omega)] at h1
        have h2 : D R Q * D (x :: R) (sub p k (a ++ c :: b)) = 0 := by rw [h1]; simp
        rcases Int.mul_eq_zero.1 h2 with h | h
        · exact absurd h G.ne
        · exact h
def RS (S : List Rw) (x : Rw) : Prop := ∃ a : Int, a ≠ 0 ∧ Sp S (fun c => a * x c)
theorem RS.of {S : List Rw} {x : Rw} (h : Sp S x) : RS S x := ⟨1, by decide, by simpa using h⟩
theorem RS.mem {S : List Rw} {x : Rw} (h : x ∈ S) : RS S x := .of (.mem h)
theorem rs_sp {R S : List Rw} (hs : ∀ y ∈ S, RS R y) {x : Rw} (h : Sp S x) : RS R x := by
  induction h with
  | zero => exact .of .zero
  | add a x y hx _ ih =>
    obtain ⟨b, hb, h1⟩ := hs x hx
    obtain ⟨c, hc, h2⟩ := ih
    refine ⟨b * c, Int.mul_ne_zero hb hc, ?_⟩
    have := h1.lin h2 (a * c) b
    refine cast (congrArg (Sp R) (funext fun k => ?_)) this
    grind
theorem RS.trans {R S : List Rw} {x : Rw} (h : RS S x) (hs : ∀ y ∈ S, RS R y) : RS R x := by
  obtain ⟨a, ha, h1⟩ := h
  obtain ⟨b, hb, h2⟩ := rs_sp hs h1
  refine ⟨b * a, Int.mul_ne_zero hb ha, ?_⟩
  refine cast (congrArg (Sp R) (funext fun k => ?_)) h2
  grind
theorem left_in {R : List Rw} {Q : List Nat} (hn : Q.Nodup) (hd : D R Q ≠ 0) {x : Rw} (h : ∀ k, D (x :: R) (k :: Q) = 0) : RS R x := by
  refine ⟨D R Q, hd, ?_⟩
  have key : ∀ l : List Nat, (∀ p ∈ l, p ∈ Q) → Sp R (fun k => sumL (fun p => x p * D R (sub p k Q)) l) := by
    intro l
    induction l with
    | nil => intro _; exact .zero
    | cons p l ih =>
      intro hl
      have := (sp_sub R hn (hl p (by simp))).lin (ih (fun q hq => hl q (by simp [hq]))) (x p) 1
      refine cast (congrArg (Sp R) (funext fun k => ?_)) this
      rw [sumL]
      grind
  have := key Q (fun _ h => h)
  refine cast (congrArg (Sp R) (funext fun k => ?_)) this
  have h1 := left_eq R x hn k
  rw [h k] at h1
  grind
theorem in_left {R : List Rw} {x : Rw} (h : RS R x) (cs : List Nat) : D (x :: R) cs = 0 := by
  obtain ⟨a, ha, h1⟩ := h
  have h2 := D_sp h1 cs
  have h3 := w_lin x x a 0 (D R) cs
  rw [show (fun c => a * x c + 0 * x c) = fun c => a * x c from funext fun c => by omega, h2] at h3
  have h4 : a * w x (D R) cs = 0 := by omega
  rcases Int.mul_eq_zero.1 h4 with h | h
  · exact absurd h ha
  · exact h
structure EF (E : List (Nat × Rw)) : Prop where
  asc : E.Pairwise (fun a b => a.1 < b.1)
  ne : ∀ e ∈ E, e.2 e.1 ≠ 0
  oth : ∀ e ∈ E, ∀ f ∈ E, e.1 ≠ f.1 → e.2 f.1 = 0
  led : ∀ e ∈ E, ∀ k, k < e.1 → e.2 k = 0
def rowsE (E : List (Nat × Rw)) : List Rw := E.map Prod.snd
def sumE (f : Nat → Int) : List (Nat × Rw) → Nat → Int
  | [], _ => 0
  | e :: E, k => f e.1 * e.2 k + sumE f E k
theorem sumE_congr {f g : Nat → Int} : ∀ {E : List (Nat × Rw)}, (∀ e ∈ E, f e.1 = g e.1) → ∀ k, sumE f E k = sumE g E k
  | [], _, _ => rfl
  | e :: E, h, k => by rw [sumE, sumE, h e (by simp), sumE_congr (fun x hx => h x (by simp [hx]))]
theorem sumE_add {a : Int} {e : Nat × Rw} (f : Nat → Int) : ∀ {E : List (Nat × Rw)}, E.Pairwise (fun a b => a.1 < b.1) → e ∈ E → ∀ k, sumE (fun p => if p = e.1 then f p + a else f p) E k = sumE f E k + a * e.2 k
  | x :: E, hp, he, k => by
    obtain ⟨h1, h2⟩ := List.pairwise_cons.1 hp
    rw [sumE, sumE]
    rcases List.mem_cons.1 he with rfl | he
    · have : sumE (fun p => if p = e.1 then f p + a else f p) E k = sumE f E k := sumE_congr (fun y hy => if_neg (by have := h1 y hy; omega)) k
      rw [this, if_pos rfl]
      grind
    · rw [sumE_add f h2 he k, if_neg (by have := h1 e he; omega)]
      omega
theorem sp_coef {E : List (Nat × Rw)} (hp : E.Pairwise (fun a b => a.1 < b.1)) {y : Rw} (h : Sp (rowsE E) y) : ∃ f, ∀ k, y k = sumE f E k := by
  induction h with
  | zero =>
    refine ⟨fun _ => 0, fun k => ?_⟩
    have : ∀ E : List (Nat × Rw), sumE (fun _ => 0) E k = 0 := by
      intro E
      induction E with
      | nil => rfl
      | cons e E ih => rw [sumE, ih]; simp
    rw [this]
  | add a x y hx _ ih =>
    obtain ⟨e, he, rfl⟩ := List.mem_map.1 hx
    obtain ⟨f, hf⟩ := ih
    exact ⟨_, fun k => by show a * e.2 k + y k = _; rw [sumE_add (a := a) f hp he k, hf k]; omega⟩
theorem sumE_at {f : Nat → Int} {E : List (Nat × Rw)} {k : Nat} (h : ∀ e ∈ E, f e.1 * e.2 k = 0) : sumE f E k = 0 := by
  induction E with
  | nil => rfl
  | cons e E ih => rw [sumE, h e (by simp), ih (fun x hx => h x (by simp [hx]))]; rfl
theorem EF.pivot {E : List (Nat × Rw)} (hE : EF E) (f : Nat → Int) {e : Nat × Rw} (he : e ∈ E) : sumE f E e.1 = f e.1 * e.2 e.1 := by
  have h := sumE_add (a := -f e.1) f hE.asc he e.1
  have h0 : sumE (fun p => if p = e.1 then f p + -f e.1 else f p) E e.1 = 0 := by
    apply sumE_at
    intro x hx
    by_cases hxe : x.1 = e.1
    · show (if x.1 = e.1 then f x.1 + -f e.1 else f x.1) * x.2 e.1 = 0
      rw [if_pos hxe, hxe, Int.add_right_neg, Int.zero_mul]
    · rw [hE.oth x hx e he hxe, Int.mul_zero]
  rw [h0] at h
  grind
theorem EF.zero {E : List (Nat × Rw)} (hE : EF E) {x : Rw} (h : RS (rowsE E) x) (hz : ∀ e ∈ E, x e.1 = 0) (k : Nat) : x k = 0 := by
  obtain ⟨a, ha, h1⟩ := h
  obtain ⟨f, hf⟩ := sp_coef hE.asc h1
  have h2 : a * x k = 0 := by
    rw [hf k]
    apply sumE_at
    intro e he
    have h3 := hf e.1
    rw [hE.pivot f he, hz e he, Int.mul_zero] at h3
    rcases Int.mul_eq_zero.1 h3.symm with h | h
    · rw [h, Int.zero_mul]
    · exact absurd h (hE.ne e he)
  rcases Int.mul_eq_zero.1 h2 with h | h
  · exact absurd h ha
  · exact h
theorem EF.first {E : List (Nat × Rw)} (hE : EF E) {x : Rw} (h : RS (rowsE E) x) {k : Nat} (hk : x k ≠ 0) (hz : ∀ j, j < k → x j = 0) : ∃ e ∈ E, e.1 = k := by
  apply Classical.byContradiction
  intro hno
  obtain ⟨a, ha, h1⟩ := h
  obtain ⟨f, hf⟩ := sp_coef hE.asc h1
  have h2 : a * x k = 0 := by
    rw [hf k]
    apply sumE_at
    intro e he
    by_cases hlt : k < e.1
    · rw [hE.led e he k hlt, Int.mul_zero]
    · have hne : e.1 ≠ k := fun e' => hno ⟨e, he, e'⟩
      have h3 := hf e.1
      rw [hE.pivot f he, hz e.1 (by omega), Int.mul_zero] at h3
      rcases Int.mul_eq_zero.1 h3.symm with h | h
      · rw [h, Int.zero_mul]
      · exact absurd h (hE.ne e he)
  rcases Int.mul_eq_zero.1 h2 with h | h
  · exact ha h
  · exact hk h
theorem asc_ext : ∀ {l m : List Nat}, l.Pairwise (· < ·) → m.Pairwise (· < ·) → (∀ x, x ∈ l ↔ x ∈ m) → l = m
  | [], [], _, _, _ => rfl
  | [], y :: m, _, _, h => by have := (h y).2 (by simp); cases this
  | x :: l, [], _, _, h => by have := (h x).1 (by simp); cases this
  | x :: l, y :: m, hl, hm, h => by
    obtain ⟨h1, h2⟩ := List.pairwise_cons.1 hl
    obtain ⟨h3, h4⟩ := List.pairwise_cons.1 hm
    have hxy : x = y := by
      rcases List.mem_cons.1 ((h x).1 (by simp)) with e | e
      · exact e
      · rcases List.mem_cons.1 ((h y).2 (by simp)) with e' | e'
        · exact e'.symm
        · have := h1 y e'; have := h3 x e; omega
    subst hxy
    rw [asc_ext h2 h4 (fun z => ?_)]
    constructor
    · intro hz
      rcases List.mem_cons.1 ((h z).1 (by simp [hz])) with e | e
      · subst e; have := h1 z hz; omega
      · exact e
    · intro hz
      rcases List.mem_cons.1 ((h z).2 (by simp [hz])) with e | e
      · subst e; have := h3 z hz; omega
      · exact e
theorem ef_same {E F : List (Nat × Rw)} (hE : EF E) (hF : EF F) (h1 : ∀ e ∈ E, RS (rowsE F) e.2) (h2 : ∀ f ∈ F, RS (rowsE E) f.2) : E.map Prod.fst = F.map Prod.fst ∧ ∀ e ∈ E, ∀ f ∈ F, e.1 = f.1 → ∀ k, f.2 f.1 * e.2 k = e.2 e.1 * f.2 k := by
  have he : ∀ e ∈ E, ∃ f ∈ F, f.1 = e.1 := fun e he => hF.first (h1 e he) (hE.ne e he) (hE.led e he)
  have hf : ∀ f ∈ F, ∃ e ∈ E, e.1 = f.1 := fun f hf => hE.first (h2 f hf) (hF.ne f hf) (hF.led f hf)
  refine ⟨asc_ext (by rw [List.pairwise_map]; exact hE.asc) (by rw [List.pairwise_map]; exact hF.asc) (fun x => ?_), fun e hem f hfm hef k => ?_⟩
  · simp only [List.mem_map]
    constructor
    · rintro ⟨e, h, rfl⟩
      obtain ⟨f, h3, h4⟩ := he e h
      exact ⟨f, h3, h4⟩
    · rintro ⟨f, h, rfl⟩
      obtain ⟨e, h3, h4⟩ := hf f h
      exact ⟨e, h3, h4⟩
  · obtain ⟨a, ha, h3⟩ := h1 e hem
    have h4 : RS (rowsE F) (fun c => f.2 f.1 * e.2 c - e.2 e.1 * f.2 c) := by
      refine ⟨a, ha, ?_⟩
      have := h3.lin (Sp.mem (R := rowsE F) (x := f.2) (List.mem_map.2 ⟨f, hfm, rfl⟩)) (f.2 f.1) (-(a * e.2 e.1))
      refine cast (congrArg (Sp (rowsE F)) (funext fun c => ?_)) this
      grind
    have h5 : f.2 f.1 * e.2 k - e.2 e.1 * f.2 k = 0 := hF.zero h4 (fun g hg => ?_) k
    · omega
    · obtain ⟨e', he', hg'⟩ := hf g hg
      show f.2 f.1 * e.2 g.1 - e.2 e.1 * f.2 g.1 = 0
      by_cases hgf : g.1 = f.1
      · rw [hgf, hef, Int.mul_comm, Int.sub_self]
      · rw [hF.oth f hfm g hg (fun h => hgf h.symm), ← hg', hE.oth e hem e' he' (by omega)]
        omega
def efOf (R : List Rw) (Q : List Nat) : List (Nat × Rw) := Q.reverse.map (fun p => (p, fun k => D R (sub p k Q)))
theorem Gat.ef {cols : Nat} {R : List Rw} {Q : List Nat} (G : Gat cols R Q) : EF (efOf R Q) := by
  have hm : ∀ e, e ∈ efOf R Q → e.1 ∈ Q ∧ e.2 = fun k => D R (sub e.1 k Q) := by
    intro e he
    obtain ⟨p, hp, rfl⟩ := List.mem_map.1 he
    exact ⟨List.mem_reverse.1 hp, rfl⟩
  refine ⟨?_, fun e he => ?_, fun e he f hf hne => ?_, fun e he k hk => ?_⟩
  · unfold efOf
    rw [List.pairwise_map, List.pairwise_reverse]
    exact G.desc.imp (fun h => h)
  · obtain ⟨h1, h2⟩ := hm e he
    rw [h2]
    show D R (sub e.1 e.1 Q) ≠ 0
    rw [sub_self]
    exact G.ne
  · obtain ⟨h1, h2⟩ := hm e he
    obtain ⟨h3, _⟩ := hm f hf
    rw [h2]
    exact (D_alt R).dup (sub_dup h1 h3 (fun h => hne h.symm))
  · obtain ⟨h1, h2⟩ := hm e he
    rw [h2]
    exact G.led e.1 h1 k hk
theorem Gat.ef_in {cols : Nat} {R : List Rw} {Q : List Nat} (G : Gat cols R Q) : ∀ e ∈ efOf R Q, Sp R e.2 := by
  intro e he
  obtain ⟨p, hp, rfl⟩ := List.mem_map.1 he
  exact sp_sub R (desc_nodup G.desc) (List.mem_reverse.1 hp)
theorem Gat.in_ef {cols : Nat} {R : List Rw} {Q : List Nat} (G : Gat cols R Q) {x : Rw} (h : RS R x) : RS (rowsE (efOf R Q)) x := by
  refine ⟨D R Q, G.ne, ?_⟩
  have key : ∀ l : List Nat, (∀ p ∈ l, p ∈ Q) → Sp (rowsE (efOf R Q)) (fun k => sumL (fun p => x p * D R (sub p k Q)) l) := by
    intro l
    induction l with
    | nil => intro _; exact .zero
    | cons p l ih =>
      intro hl
      have hp : (fun k => D R (sub p k Q)) ∈ rowsE (efOf R Q) := List.mem_map.2 ⟨(p, fun k => D R (sub p k Q)), List.mem_map.2 ⟨p, List.mem_reverse.2 (hl p (by simp)), rfl⟩, rfl⟩
      have := (Sp.mem hp).lin (ih (fun q hq => hl q (by simp [hq]))) (x p) 1
      refine cast (congrArg (Sp _) (funext fun k => ?_)) this
      rw [sumL]
      grind
  have := key Q (fun _ h => h)
  refine cast (congrArg (Sp _) (funext fun k => ?_)) this
  have h1 := left_eq R x (desc_nodup G.desc) k
  rw [in_left h] at h1
  grind
end Md
end Go.Proofs.Ytodgiglhconkoaa

namespace Go.Proofs.Ytodgiglhconkoaa
namespace Lm
open Go Go.RowKit
theorem gcdL_dvd {zs : List Int} : ∀ z ∈ zs, gcdL zs ∣ z := by
  have key : ∀ (l : List Int) (c : Int), l.foldl (fun c z => ((Int.gcd c z : Nat) : Int)) c ∣ c ∧ ∀ z ∈ l, l.foldl (fun c z => ((Int.gcd c z : Nat) : Int)) c ∣ z := by
    intro l
    induction l with
    | nil => intro c; exact ⟨Int.dvd_refl _, fun z hz => by cases hz⟩
    | cons x l ih =>
      intro c
      obtain ⟨h1, h2⟩ := ih ((Int.gcd c x : Nat) : Int)
      refine ⟨Int.dvd_trans h1 (Int.gcd_dvd_left ..), fun z hz => ?_⟩
      rcases List.mem_cons.1 hz with rfl | hz
      · exact Int.dvd_trans h1 (Int.gcd_dvd_right ..)
      · exact h2 z hz
  exact fun z hz => (key zs 0).2 z hz
theorem dvs_dvd {zs : List Int} : ∀ z ∈ zs, dvs zs ∣ z := by
  intro z hz
  unfold dvs
  split
  · exact Int.neg_dvd.2 (gcdL_dvd z hz)
  · exact gcdL_dvd z hz
theorem gcdL_zero {zs : List Int} (h : ∀ z ∈ zs, z = 0) : gcdL zs = 0 := by
  have key : ∀ l : List Int, (∀ z ∈ l, z = 0) → l.foldl (fun c z => ((Int.gcd c z : Nat) : Int)) 0 = 0 := by
    intro l
    induction l with
    | nil => intro _; rfl
    | cons x l ih =>
      intro hl
      rw [List.foldl_cons, hl x (by simp)]
      exact ih (fun z hz => hl z (by simp [hz]))
  exact key zs h
theorem gcdL_scale (k : Int) (zs : List Int) : gcdL (zs.map (k * ·)) = (k.natAbs : Int) * gcdL zs := by
  have key : ∀ (l : List Int) (c : Int), (l.map (k * ·)).foldl (fun c z => ((Int.gcd c z : Nat) : Int)) ((k.natAbs : Int) * c) = (k.natAbs : Int) * l.foldl (fun c z => ((Int.gcd c z : Nat) : Int)) c := by
    intro l
    induction l with
    | nil => intro c; rfl
    | cons z l ih =>
      intro c
      rw [List.map_cons, List.foldl_cons, List.foldl_cons, ← ih]
      congr 1
      rw [Int.gcd, Int.natAbs_mul, Int.natAbs_mul, Int.natAbs_natCast, Nat.gcd_mul_left, Int.gcd, Int.natCast_mul]
  have := key zs 0
  rwa [Int.mul_zero] at this
theorem sgnL_scale (k : Int) (hk : k ≠ 0) (zs : List Int) : sgnL (zs.map (k * ·)) = Int.sign k * sgnL zs := by
  have hs : Int.sign k ≠ 0 := fun h => hk (Int.sign_eq_zero_iff_zero.1 h)
  have key : ∀ (l : List Int) (s : Int), (l.map (k * ·)).foldl (fun s z => if s = 0 then Int.sign z else s) (Int.sign k * s) = Int.sign k * l.foldl (fun s z => if s = 0 then Int.sign z else s) s := by
    intro l
    induction l with
    | nil => intro s; rfl
    | cons z l ih =>
      intro s
      rw [List.map_cons, List.foldl_cons, List.foldl_cons, ← ih]
      congr 1
      by_cases h : s = 0
      · rw [if_pos h, if_pos (by rw [h, Int.mul_zero]), Int.sign_mul]
      · rw [if_neg h, if_neg (fun e => (Int.mul_eq_zero.1 e).elim hs h)]
  have := key zs 0
  rwa [Int.mul_zero] at this
theorem sgnL_none {zs : List Int} (h : sgnL zs = 0) : ∀ z ∈ zs, z = 0 := by
  have stay : ∀ (l : List Int) (s : Int), s ≠ 0 → l.foldl (fun s z => if s = 0 then Int.sign z else s) s = s := by
    intro l
    induction l with
    | nil => intro s _; rfl
    | cons z l ih => intro s hs; rw [List.foldl_cons, if_neg hs]; exact ih s hs
  induction zs with
  | nil => simp
  | cons z l ih =>
    unfold sgnL at h
    rw [List.foldl_cons, if_pos rfl] at h
    by_cases hz : Int.sign z = 0
    · rw [hz] at h
      intro y hy
      rcases List.mem_cons.1 hy with rfl | hy
      · exact Int.sign_eq_zero_iff_zero.1 hz
      · exact ih h y hy
    · rw [stay l _ hz] at h
      exact absurd h hz
theorem dvs_scale (k : Int) (hk : k ≠ 0) (zs : List Int) : dvs (zs.map (k * ·)) = k * dvs zs := by
  unfold dvs
  rw [gcdL_scale, sgnL_scale k hk]
  by_cases h0 : sgnL zs = 0
  · rw [h0, gcdL_zero (sgnL_none h0)]
    simp
  · rcases Int.lt_or_gt_of_ne hk with hk' | hk'
    · rw [Int.sign_eq_neg_one_of_neg hk', show (k.natAbs : Int) = -k by omega]
      by_cases h1 : sgnL zs < 0
      · rw [if_neg (by omega), if_pos h1, Int.neg_mul, Int.mul_neg]
      · rw [if_pos (by omega), if_neg h1, Int.neg_mul, Int.neg_neg]
    · rw [Int.sign_eq_one_of_pos hk', show (k.natAbs : Int) = k by omega, Int.one_mul]
      split
      · rw [Int.mul_neg]
      · rfl
theorem red_scale (k : Int) (hk : k ≠ 0) (zs : List Int) : red (zs.map (k * ·)) = red zs := by
  unfold red
  rw [dvs_scale k hk, List.map_map]
  refine List.map_congr_left fun z hz => ?_
  show k * z / (k * dvs zs) = z / dvs zs
  obtain ⟨q, hq⟩ := dvs_dvd z hz
  by_cases hd : dvs zs = 0
  · rw [hd, Int.mul_zero, Int.ediv_zero, Int.ediv_zero]
  · have h1 : z / dvs zs = q := by rw [hq]; exact Int.mul_ediv_cancel_left q hd
    have h2 : k * z = k * dvs zs * q := by rw [Int.mul_assoc, ← hq]
    rw [h1, h2]
    exact Int.mul_ediv_cancel_left q (fun e => (Int.mul_eq_zero.1 e).elim hk hd)
theorem limbsF (w : World) (z : Int) (L : Nat) (v : Value) (h : IsW z L v w) (hL : L ≤ 400000) :
    Calls Try.prog 19 #[v] w fun e w' => ∃ m : Nat, e = .returned (.int .i64 (m : Int)) ∧ (m ≤ 32 ↔ (z.natAbs : Int) < pw 32) ∧ Below w.heap.size w w' := by
  obtain ⟨ng, ao, n, cap, xs, rfl, hA, hl⟩ := h
  obtain ⟨m, hm⟩ := isLen_ex hA
  have hv : val xs = (z.natAbs : Int) := by
    obtain ⟨_, _, _, _, _, hb, _⟩ := hA.sl
    have h1 := val_bounds hb
    have h4 := hA.worth
    rw [← h4]
    cases ng
    · simp only [sg]
      rw [if_neg (by decide)]
      omega
    · simp only [sg]
      rw [if_pos trivial]
      omega
  refine (wlimbs_any w ng ao n cap xs hA.sl (by omega) m (by rw [hv]; exact hm)).mono ?_
  rintro e w' ⟨rfl, hb⟩
  refine ⟨m, rfl, ?_, hb⟩
  obtain ⟨rs, hc, hv', rfl⟩ := hm
  constructor
  · intro h
    have h1 := (val_bounds hc.1).2
    have h2 := pw_mono h
    omega
  · intro h
    exact canon_len hc (by rw [hv']; exact h)
theorem IsRow.wide {w : World} {v : Value} {zs : List Int} {L L' : Nat} (h : IsRow w v zs L) (hl : L ≤ L') : IsRow w v zs L' := by
  obtain ⟨es, h1, h2, h3⟩ := h
  exact ⟨es, h1, h2, fun e he => Nat.le_trans (h3 e he) hl⟩
end Lm
end Go.Proofs.Ytodgiglhconkoaa

namespace Go.Proofs.Ytodgiglhconkoaa
namespace Lm
open Go Go.RowKit
def Asks (w : World) (f : FuncId) (cap : Array Value) (zs : List Int) (L : Nat) (p : Int → Bool) : Prop := ∀ (W : World) (z : Int) (xv : Value), Below w.heap.size w W → z ∈ zs → IsW z L xv W → Calls Try.prog f (#[xv] ++ cap) W fun e W' => e = .returned (.bool (p z)) ∧ Below W.heap.size W W'
def AsksR (w : World) (f : FuncId) (cap : Array Value) (rows : List (List Int)) (L : Nat) (p : List Int → Bool) : Prop := ∀ (W : World) (z : List Int) (xv : Value), Below w.heap.size w W → z ∈ rows → IsRow W xv z L → Calls Try.prog f (#[xv] ++ cap) W fun e W' => e = .returned (.bool (p z)) ∧ Below W.heap.size W W'
theorem any_take {α : Type} {p : α → Bool} {zs : List α} {k : Nat} {z : α} (h : zs[k]? = some z) (h1 : (zs.take k).any p = false) (h2 : p z = false) : (zs.take (k + 1)).any p = false := by
  rw [List.take_add_one, h, List.any_append, h1]
  simp [h2]
set_option maxRecDepth 20000 in
set_option maxHeartbeats 4000000 in
theorem indexf_any (w : World) (v : Value) (zs : List Int) (L : Nat) (h : IsRow w v zs L) (f : FuncId) (hf : Has Try.prog f) (cap : Array Value) (p : Int → Bool) (hA : Asks w f cap zs L p) :
    Calls Try.prog 63 #[v, .func (.func f) #[] cap] w fun e w' => (∃ r : Int, e = .returned (.int .i64 r) ∧ decide (0 ≤ r) = zs.any p) ∧ Below w.heap.size w w' := by
  obtain ⟨ao, cp, rfl, hn⟩ := h.parts
  have H := hide h
  have HA := hide hA
  clear h hA
  obtain ⟨n, hnn⟩ : ∃ n, zs.length = n := ⟨_, rfl⟩
  rw [hnn] at H hn ⊢
  have HN := hide hnn
  clear hnn
  go_enter Try.func63, Try.ntmps63
  go_wp2
  go_loopw [5, 8] (fun _ iv wr => ∃ (k : Nat), iv = .int .i64 k ∧ k ≤ n ∧ (zs.take k).any p = false ∧ Below w.heap.size w wr) (fun _ iv _ => n - (intOf iv).toNat)
  case atStart => exact ⟨0, rfl, Nat.zero_le _, by simp, Below.refl _ _⟩
  case round =>
    obtain ⟨k, rfl, hk, hany, hbw⟩ := hrel
    have HW := hide hbw
    have HY := hide hany
    by_cases hlt : k < n
    · obtain ⟨z, hz⟩ : ∃ z, zs[k]? = some z := ⟨_, List.getElem?_eq_getElem (by have := HN.out; omega)⟩
      obtain ⟨b, off, ngx, ax, mx, cx, rfl, hbl, x0, x1, hx⟩ := H.out.cell hz
      replace x0 := (hbw.cell (p := ⟨b, off + k * 2, none⟩) hbl).trans x0
      replace x1 := (hbw.cell (p := ⟨b, off + k * 2 + 1, none⟩) hbl).trans x1
      have hlt' : (k : Int) < (n : Int) := by omega
      have KC := hide (HA.out wr z (.agg #[.bool ngx, .slice ax mx cx]) hbw (List.mem_of_getElem? hz) (hx.ru (Ru.of_below hbw)))
      have HZ := hide hz
      clear hbw hany hx hz
      have hE : ∀ args w, (callFunc f args).run Try.prog w = .ok (.enter f args) w := fun args w => hf.enter args w
      go_wp2_with fail
      refine KC.out.mono ?_
      rintro e w3 ⟨rfl, hb3⟩
      have HB3 := hide (HW.out.trans (hb3.mono HW.out.size))
      clear hb3 KC hE x0 x1
      obtain ⟨pz, hpz⟩ : ∃ b, p z = b := ⟨_, rfl⟩
      rw [hpz]
      have HPZ := hide hpz
      clear hpz
      cases pz with
      | true =>
        go_wp2
        go_ret
        exact ⟨⟨k, rfl, by rw [decide_eq_true (by omega), eq_comm, List.any_eq_true]; exact ⟨z, List.mem_of_getElem? HZ.out, HPZ.out⟩⟩, HB3.out⟩
      | false =>
        go_wp2
        go_roundw
        case rel => exact ⟨k + 1, by go_num, by omega, any_take HZ.out HY.out HPZ.out, HB3.out⟩
        case measure => simp [intOf]; omega
    · have hlt' : decide ((k : Int) < (n : Int)) = false := by simp; omega
      clear hbw hany
      go_wp2
      go_ret
      refine ⟨⟨-1, rfl, ?_⟩, HW.out⟩
      have := HY.out
      rw [List.take_of_length_le (by have := HN.out; omega)] at this
      rw [this]; rfl
theorem containsf_any (w : World) (v : Value) (zs : List Int) (L : Nat) (h : IsRow w v zs L) (f : FuncId) (hf : Has Try.prog f) (cap : Array Value) (p : Int → Bool) (hA : Asks w f cap zs L p) :
    Calls Try.prog 44 #[v, .func (.func f) #[] cap] w fun e w' => e = .returned (.bool (zs.any p)) ∧ Below w.heap.size w w' := by
  have K := hide (indexf_any w v zs L h f hf cap p hA)
  obtain ⟨ao, cp, rfl, hn⟩ := h.parts
  clear h hA
  go_enter Try.func44, Try.ntmps44
  go_wp2_with fail
  refine K.out.mono ?_
  rintro e w1 ⟨⟨r, rfl, hr⟩, hb⟩
  have HB := hide hb
  have HR := hide hr
  clear hb K hr
  go_wp2
  refine bodyPost_ret (v := _) (by simp [results, Try.results44, go_sem]; try rfl) rfl ⟨by rw [← HR.out], HB.out⟩
set_option maxRecDepth 20000 in
set_option maxHeartbeats 4000000 in
theorem indexr_any (w : World) (v : Value) (rows : List (List Int)) (L : Nat) (h : IsM w v rows L) (f : FuncId) (hf : Has Try.prog f) (cap : Array Value) (p : List Int → Bool) (hA : AsksR w f cap rows L p) :
    Calls Try.prog 54 #[v, .func (.func f) #[] cap] w fun e w' => (∃ r : Int, e = .returned (.int .i64 r) ∧ decide (0 ≤ r) = rows.any p) ∧ Below w.heap.size w w' := by
  obtain ⟨ao, cp, rfl, hn⟩ := h.parts
  have H := hide h
  have HA := hide hA
  clear h hA
  obtain ⟨n, hnn⟩ : ∃ n, rows.length = n := ⟨_, rfl⟩
  rw [hnn] at H hn ⊢
  have HN := hide hnn
  clear hnn
  go_enter Try.func54, Try.ntmps54
  go_wp2
  go_loopw [5, 8] (fun _ iv wr => ∃ (k : Nat), iv = .int .i64 k ∧ k ≤ n ∧ (rows.take k).any p = false ∧ Below w.heap.size w wr) (fun _ iv _ => n - (intOf iv).toNat)
  case atStart => exact ⟨0, rfl, Nat.zero_le _, by simp, Below.refl _ _⟩
  case round =>
    obtain ⟨k, rfl, hk, hany, hbw⟩ := hrel
    have HW := hide hbw
    have HY := hide hany
    by_cases hlt : k < n
    · obtain ⟨z, hz⟩ : ∃ z, rows[k]? = some z := ⟨_, List.getElem?_eq_getElem (by have := HN.out; omega)⟩
      obtain ⟨b, off, u, rfl, hbl, x0, hx⟩ := H.out.cell hz
      replace x0 := (hbw.cell (p := ⟨b, off + k, none⟩) hbl).trans x0
      have hlt' : (k : Int) < (n : Int) := by omega
      have KC := hide (HA.out wr z u hbw (List.mem_of_getElem? hz) (hx.below hbw))
      obtain ⟨ua, uc, rfl, _⟩ := hx.parts
      have HZ := hide hz
      clear hbw hany hx hz
      have hE : ∀ args w, (callFunc f args).run Try.prog w = .ok (.enter f args) w := fun args w => hf.enter args w
      go_wp2_with fail
      refine KC.out.mono ?_
      rintro e w3 ⟨rfl, hb3⟩
      have HB3 := hide (HW.out.trans (hb3.mono HW.out.size))
      clear hb3 KC hE x0
      obtain ⟨pz, hpz⟩ : ∃ b, p z = b := ⟨_, rfl⟩
      rw [hpz]
      have HPZ := hide hpz
      clear hpz
      cases pz with
      | true =>
        go_wp2
        go_ret
        exact ⟨⟨k, rfl, by rw [decide_eq_true (by omega), eq_comm, List.any_eq_true]; exact ⟨z, List.mem_of_getElem? HZ.out, HPZ.out⟩⟩, HB3.out⟩
      | false =>
        go_wp2
        go_roundw
        case rel => exact ⟨k + 1, by go_num, by omega, any_take HZ.out HY.out HPZ.out, HB3.out⟩
        case measure => simp [intOf]; omega
    · have hlt' : decide ((k : Int) < (n : Int)) = false := by simp; omega
      clear hbw hany
      go_wp2
      go_ret
      refine ⟨⟨-1, rfl, ?_⟩, HW.out⟩
      have := HY.out
      rw [List.take_of_length_le (by have := HN.out; omega)] at this
      rw [this]; rfl
theorem containsr_any (w : World) (v : Value) (rows : List (List Int)) (L : Nat) (h : IsM w v rows L) (f : FuncId) (hf : Has Try.prog f) (cap : Array Value) (p : List Int → Bool) (hA : AsksR w f cap rows L p) :
    Calls Try.prog 40 #[v, .func (.func f) #[] cap] w fun e w' => e = .returned (.bool (rows.any p)) ∧ Below w.heap.size w w' := by
  have K := hide (indexr_any w v rows L h f hf cap p hA)
  obtain ⟨ao, cp, rfl, hn⟩ := h.parts
  clear h hA
  go_enter Try.func40, Try.ntmps40
  go_wp2_with fail
  refine K.out.mono ?_
  rintro e w1 ⟨⟨r, rfl, hr⟩, hb⟩
  have HB := hide hb
  have HR := hide hr
  clear hb K hr
  go_wp2
  refine bodyPost_ret (v := _) (by simp [results, Try.results40, go_sem]; try rfl) rfl ⟨by rw [← HR.out], HB.out⟩
theorem has_long1 : Has Try.prog 66 := by unfold Has; kernel_rfl
theorem has_limbs : Has Try.prog 19 := by unfold Has; kernel_rfl
def big (z : Int) : Bool := decide (¬ (z.natAbs : Int) < pw 32)
set_option maxRecDepth 20000 in
set_option maxHeartbeats 4000000 in
theorem long1_any (W : World) (z : Int) (L : Nat) (xv : Value) (g : Nat) (T : TypeId) (hg : W.heap[g]? = some (.cells #[.func (.func 19) #[] #[]] T (0, 0))) (hx : IsW z L xv W) (hL : L ≤ 400000) :
    Calls Try.prog 66 #[xv, .pointer (some ⟨g, 0, none⟩)] W fun e W' => e = .returned (.bool (big z)) ∧ Below W.heap.size W W' := by
  obtain ⟨ng, ao, n, cap, xs, rfl, _⟩ := id hx
  have hb := hAl W (.cells #[.bool ng, .slice ao n cap] 30)
  obtain ⟨hgl, c0, _⟩ := one_cell hg
  replace c0 := (hb.cell (p := ⟨g, 0, none⟩) hgl).trans c0
  have K := hide (limbsF _ z L _ (hx.ru (Ru.of_below hb)) hL)
  have hE : ∀ args w, (callFunc 19 args).run Try.prog w = .ok (.enter 19 args) w := fun args w => has_limbs.enter args w
  clear hx hg
  go_enter Try.func66, Try.ntmps66
  go_wp2_with fail
  refine K.out.mono ?_
  rintro e w1 ⟨m, rfl, hm, hb1⟩
  have HB := hide (hb.trans (hb1.mono hb.size))
  have hbg : decide ((m : Int) > 32) = big z := by
    unfold big
    by_cases h : m ≤ 32
    · rw [decide_eq_false (by omega), decide_eq_false (not_not_intro (hm.1 h))]
    · rw [decide_eq_true (by omega), decide_eq_true (p := ¬ (z.natAbs : Int) < pw 32) (fun e => h (hm.2 e))]
  clear hb hb1 K hm
  go_wp2
  refine bodyPost_ret (v := _) (by simp [results, Try.results66, go_sem]; try rfl) rfl ⟨by rw [← hbg], HB.out⟩
set_option maxRecDepth 20000 in
set_option maxHeartbeats 4000000 in
theorem long_any (w : World) (v : Value) (zs : List Int) (L : Nat) (h : IsRow w v zs L) (hL : L ≤ 400000) :
    Calls Try.prog 49 #[v, .func (.func 19) #[] #[]] w fun e w' => e = .returned (.bool (zs.any big)) ∧ Below w.heap.size w w' := by
  obtain ⟨ao, cp, rfl, hn⟩ := h.parts
  have key : ∀ T : TypeId, Hid (Calls Try.prog 44 #[.slice ao zs.length cp, .func (.func 66) #[] #[.pointer (some ⟨w.heap.size, 0, none⟩)]] (w.alloc (.cells #[.func (.func 19) #[] #[]] T)) fun e w' => e = .returned (.bool (zs.any big)) ∧ Below w.heap.size w w') := fun T => by
    have hb := hAl w (.cells #[.func (.func 19) #[] #[]] T)
    have hnew := heap_alloc_new w (.cells #[.func (.func 19) #[] #[]] T)
    refine (containsf_any _ _ zs L (h.below hb) _ has_long1 _ big (fun W z xv hbW hz hx => ?_)).mono ?_
    · exact long1_any W z L xv w.heap.size T ((hbW.block _ (lt_of_heap hnew)).trans hnew) hx hL
    · rintro e w' ⟨rfl, hb'⟩
      exact ⟨rfl, hb.trans (hb'.mono hb.size)⟩
  clear h
  have hmf : ∀ (fn : Fn) (first cap : Array Value) (w : World), (Instr.makeFunc fn first cap).run Try.prog w = .ok (.func fn first cap) w := fun _ _ _ _ => rfl
  go_enter Try.func49, Try.ntmps49
  go_wp2_with fail
  refine (key _).out.mono ?_
  rintro e w1 ⟨rfl, hb⟩
  have HB := hide hb
  clear hb key
  go_wp2
  refine bodyPost_ret (v := _) (by simp [results, Try.results49, go_sem]; try rfl) rfl ⟨rfl, HB.out⟩
theorem has_shaped1 : Has Try.prog 39 := by unfold Has; kernel_rfl
theorem shaped1_any (W : World) (z : List Int) (L : Nat) (xv : Value) (g : Nat) (cols : Int) (hg : W.heap[g]? = some (.cells #[.int .i64 cols] 3 (0, 0))) (hx : IsRow W xv z L) :
    Calls Try.prog 39 #[xv, .pointer (some ⟨g, 0, none⟩)] W fun e W' => e = .returned (.bool (decide ((z.length : Int) ≠ cols))) ∧ Below W.heap.size W W' := by
  obtain ⟨ua, uc, rfl, hn⟩ := hx.parts
  obtain ⟨hgl, c0, _⟩ := one_cell hg
  clear hx hg
  go_enter Try.func39, Try.ntmps39
  go_wp2
  refine bodyPost_ret (v := _) (by simp [results, Try.results39, go_sem]; try rfl) rfl ⟨by congr 2; rw [bne]; by_cases h : (z.length : Int) = cols <;> simp [h], Below.refl _ _⟩
end Lm
end Go.Proofs.Ytodgiglhconkoaa

namespace Go.Proofs.Ytodgiglhconkoaa
namespace Lm
open Go Go.RowKit
set_option maxRecDepth 20000 in
set_option maxHeartbeats 2000000 in
theorem wofF (w : World) (v : Int) (h1 : -9223372036854775808 ≤ v) (h2 : v ≤ 9223372036854775807) :
    Calls Try.prog 9 #[.int .i64 v] w fun e w' => ∃ r, e = .returned r ∧ FrW w.heap.size v 2 r w' ∧ Below w.heap.size w w' := by
  have hb0 := hAl w (.cells #[.bool false, .slice none 0 0] 30)
  have hn0 := heap_alloc_new w (.cells #[.bool false, .slice none 0 0] 30)
  obtain ⟨w0, e0⟩ : ∃ w0, w.alloc (.cells #[.bool false, .slice none 0 0] 30) = w0 := ⟨_, rfl⟩
  rw [e0] at hb0 hn0
  have key : ∀ (ng : Bool) (x : Int), 0 ≤ x → x < 18446744073709551616 → sg ng x = v → Hid (Calls Try.prog 24 #[.int .u64 x] w0 fun e w1 => ∃ ao cap n, e = .returned (.slice ao n cap) ∧ Hid (Calls Try.prog 22 #[.bool ng, .slice ao n cap] w1 fun e w2 => ∃ ng2, e = .returned (.agg #[.bool ng2, .slice ao n cap]) ∧ FrW w.heap.size v 2 (.agg #[.bool ng2, .slice ao n cap]) w2 ∧ Below w.heap.size w w2 ∧ w2.heap[w.heap.size]? = some (.cells #[.bool false, .slice none 0 0] 30 (0, 0)))) := fun ng x hx0 hx1 hs => by
    refine (small_any w0 x hx0 hx1).mono ?_
    rintro e w1 ⟨v1, rfl, hi1, hb1⟩
    obtain ⟨ao, cap, rs, rfl, hf⟩ := hi1.fr
    obtain ⟨_, _, _, e2, G1, l1⟩ := got_small hi1 hx1
    have e2' := e2
    rw [Value.slice.injEq] at e2'
    obtain ⟨rfl, e3, rfl⟩ := e2'
    obtain ⟨ow1, cn1, vl1, ls1⟩ := hf
    refine ⟨ao, cap, rs.length, rfl, (signed_g _ ng _ _ rs x ⟨ow1.sl, cn1, vl1⟩ (by omega)).mono ?_⟩
    rintro e w2 ⟨ng2, rfl, G2, hb2⟩
    have hb3 := hb0.trans ((hb1.trans (hb2.mono hb1.size)).mono hb0.size)
    rw [hs] at G2
    refine ⟨ng2, rfl, (FrW.of_li (T := w1.heap.size) G2 ⟨ow1.below hb2, ls1⟩ hb2.size (by omega)).low hb0.size, hb3, ?_⟩
    exact ((hb1.trans (hb2.mono hb1.size)).block _ (lt_of_heap hn0)).trans hn0
  have E0 := hide e0
  have fin : ∀ (w2 : World) (ng2 : Bool) (ao : Option Addr) (n cap : Nat), FrW w.heap.size v 2 (.agg #[.bool ng2, .slice ao n cap]) w2 → Below w.heap.size w w2 → w2.heap[w.heap.size]? = some (.cells #[.bool false, .slice none 0 0] 30 (0, 0)) → Hid ((loadVar 30 ⟨w.heap.size, 0, none⟩).run Try.prog ((w2.setCell ⟨w.heap.size, 0, none⟩ (.bool ng2)).setCell ⟨w.heap.size, 1, none⟩ (.slice ao n cap)) = .ok (.agg #[.bool ng2, .slice ao n cap]) ((w2.setCell ⟨w.heap.size, 0, none⟩ (.bool ng2)).setCell ⟨w.heap.size, 1, none⟩ (.slice ao n cap)) ∧ FrW w.heap.size v 2 (.agg #[.bool ng2, .slice ao n cap]) ((w2.setCell ⟨w.heap.size, 0, none⟩ (.bool ng2)).setCell ⟨w.heap.size, 1, none⟩ (.slice ao n cap)) ∧ Below w.heap.size w ((w2.setCell ⟨w.heap.size, 0, none⟩ (.bool ng2)).setCell ⟨w.heap.size, 1, none⟩ (.slice ao n cap))) := fun w2 ng2 ao n cap hF hB hN =>
    ⟨lvw2 (set_w2 hN _ _), hF.ru (ru_w2 hN _ _), (hB.setCell (Nat.le_refl _) _).setCell (Nat.le_refl _) _⟩
  clear hb0 hn0 e0
  by_cases h0 : v < 0
  · have hw : IntKind.u64.wrap (-IntKind.u64.wrap v) = -v := by rw [IntKind.wrap_u64, IntKind.wrap_u64]; omega
    have K1 := key true (-v) (by omega) (by omega) (by simp [sg])
    clear key
    go_enter Try.func9, Try.ntmps9
    go_wp2_with fail
    rw [E0.out]
    refine K1.out.mono ?_
    rintro e w1 ⟨ao, cap, n, rfl, K2⟩
    clear K1
    go_wp2_with fail
    refine K2.out.mono ?_
    rintro e w2 ⟨ng2, rfl, hF, hB, hN⟩
    obtain ⟨hl2, y0, y1, yf0, yf1⟩ := two_cells hN
    have X := fin w2 ng2 ao n cap hF hB hN
    clear hF hB hN K2 fin
    go_wp2
    exact bodyPost_ret (v := .agg #[.bool ng2, .slice ao n cap]) (res_c (g := w.heap.size) rfl rfl X.out.1) rfl ⟨_, rfl, X.out.2.1, X.out.2.2⟩
  · have K1 := key false v (by omega) (by omega) (by simp [sg])
    clear key
    go_enter Try.func9, Try.ntmps9
    go_wp2_with fail
    rw [E0.out]
    refine K1.out.mono ?_
    rintro e w1 ⟨ao, cap, n, rfl, K2⟩
    clear K1
    go_wp2_with fail
    refine K2.out.mono ?_
    rintro e w2 ⟨ng2, rfl, hF, hB, hN⟩
    obtain ⟨hl2, y0, y1, yf0, yf1⟩ := two_cells hN
    have X := fin w2 ng2 ao n cap hF hB hN
    clear hF hB hN K2 fin
    go_wp2
    exact bodyPost_ret (v := .agg #[.bool ng2, .slice ao n cap]) (res_c (g := w.heap.size) rfl rfl X.out.1) rfl ⟨_, rfl, X.out.2.1, X.out.2.2⟩
end Lm
end Go.Proofs.Ytodgiglhconkoaa

namespace Go.Proofs.Ytodgiglhconkoaa
namespace Lm
open Go Go.RowKit
open Dm (WFr)
def CanRow (w : World) (v : Value) (zs : List Int) (L : Nat) : Prop := ∃ es : List WE, Rw w v es ∧ es.length = zs.length ∧ ∀ (k : Nat) (e : WE) (z : Int), es[k]? = some e → zs[k]? = some z → Canon e.zs ∧ val e.zs = (z.natAbs : Int) ∧ e.ng = decide (z < 0) ∧ e.zs.length ≤ L
theorem CanRow.below {w w' : World} {v : Value} {zs : List Int} {L : Nat} (h : CanRow w v zs L) (hb : Below w.heap.size w w') : CanRow w' v zs L := by
  obtain ⟨es, h1, h2, h3⟩ := h
  exact ⟨es, h1.below hb, h2, h3⟩
theorem CanRow.is {w : World} {v : Value} {zs : List Int} {L : Nat} (h : CanRow w v zs L) : IsRow w v zs L := by
  obtain ⟨es, h1, h2, h3⟩ := h
  refine ⟨es, h1, ?_, ?_⟩
  · apply List.ext_getElem?
    intro k
    rw [List.getElem?_map]
    cases hk : es[k]? with
    | none =>
      rw [List.getElem?_eq_none_iff] at hk
      rw [Option.map_none, eq_comm, List.getElem?_eq_none_iff]
      omega
    | some e =>
      have hkl := (List.getElem?_eq_some_iff.1 hk).1
      obtain ⟨z, hz⟩ : ∃ z, zs[k]? = some z := ⟨_, List.getElem?_eq_getElem (by omega)⟩
      obtain ⟨c1, c2, c3, _⟩ := h3 k e z hk hz
      rw [hz, Option.map_some]
      congr 1
      unfold WE.z sg
      rw [c2, c3]
      by_cases hn : z < 0
      · rw [if_pos (decide_eq_true hn)]; omega
      · rw [if_neg (by simpa using hn)]; omega
  · intro e he
    obtain ⟨k, hk⟩ := List.mem_iff_getElem?.1 he
    have hkl := (List.getElem?_eq_some_iff.1 hk).1
    obtain ⟨z, hz⟩ : ∃ z, zs[k]? = some z := ⟨_, List.getElem?_eq_getElem (by omega)⟩
    exact (h3 k e z hk hz).2.2.2
theorem ORow.can {K : Nat} {w : World} {v : Value} {zs : List Int} {L : Nat} (h : ORow K w v zs L) : CanRow w v zs L := by
  obtain ⟨bv, rfl, _, h, hl⟩ := h
  obtain ⟨es, B, T, e1, e2, e3, e4, e5⟩ := h
  refine ⟨es, ⟨⟨_, _, by rw [e1], by omega, by omega, flat_length es, .inr ⟨bv, 0, rfl, lt_of_heap e2, fun j u hu => ?_⟩⟩, ?_⟩, e1, ?_⟩
  · rw [Nat.zero_add, cell_of_row _ _ _ _ _ (0, 0) e2, List.getElem?_toArray]
    exact hu
  · intro e he
    obtain ⟨k, hk⟩ := List.mem_iff_getElem?.1 he
    have hkl := (List.getElem?_eq_some_iff.1 hk).1
    obtain ⟨z, hz⟩ : ∃ z, zs[k]? = some z := ⟨_, List.getElem?_eq_getElem (by omega)⟩
    obtain ⟨g1, g2, _⟩ := e4 k e z (by omega) hk hz
    have := g1.wh.sl
    rwa [← g2] at this
  · intro k e z hk hz
    have hkl := (List.getElem?_eq_some_iff.1 hk).1
    obtain ⟨g1, g2, g3, _⟩ := e4 k e z (by omega) hk hz
    exact ⟨g1.fr.canon, g1.fr.val, g1.sgn, g3⟩
theorem samerow_can (w : World) (v v' : Value) (zs : List Int) (L M : Nat) (h : CanRow w v zs L) (h' : CanRow w v' zs M) :
    Calls Try.prog 29 #[v, v'] w fun e w' => e = .returned (.bool true) ∧ Below w.heap.size w w' := by
  obtain ⟨es, h1, h2, h3⟩ := h
  obtain ⟨fs, g1, g2, g3⟩ := h'
  obtain ⟨a, c, rfl, _⟩ := id h1.cl
  obtain ⟨a', c', rfl, _⟩ := id g1.cl
  refine samerow_z w a _ c es h1 a' _ c' fs g1 ?_
  unfold SameR
  apply List.ext_getElem?
  intro k
  rw [List.getElem?_map, List.getElem?_map]
  cases hk : es[k]? with
  | none =>
    rw [List.getElem?_eq_none_iff] at hk
    rw [(List.getElem?_eq_none_iff (l := fs)).2 (by omega)]
  | some e =>
    have hkl := (List.getElem?_eq_some_iff.1 hk).1
    obtain ⟨z, hz⟩ : ∃ z, zs[k]? = some z := ⟨_, List.getElem?_eq_getElem (by omega)⟩
    obtain ⟨f, hf⟩ : ∃ f, fs[k]? = some f := ⟨_, List.getElem?_eq_getElem (by omega)⟩
    obtain ⟨c1, c2, c3, _⟩ := h3 k e z hk hz
    obtain ⟨d1, d2, d3, _⟩ := g3 k f z hf hz
    rw [hf, Option.map_some, Option.map_some, WE.raw, WE.raw, c3, d3, canon_one c1 d1 (c2.trans d2.symm)]
theorem wpList_does {ops : Array Oper} {rest : List Oper} {o : Oper} {a : Act} {w : World} {Q : Exit → Act → World → Prop} {R : Value → World → Prop} (hg : o.guard = none) (h : Does Try.prog o a.eval w R) (hK : ∀ v w', R v w' → wpList Try.prog ops Q rest (a.put o.dst v) w') : wpList Try.prog ops Q (o :: rest) a w := by
  refine wpList_plain hg fun K hK' => ?_
  exact Does.wp h (fun v w' hr => hK' _ _ (hK v w' hr))
set_option maxRecDepth 20000 in
set_option maxHeartbeats 1000000 in
theorem lsmallo_neg (w : World) (v : Int) (h1 : -9223372036854775808 ≤ v) (h2 : v ≤ 9223372036854775807) (h0 : v < 0) :
    Calls Try.prog 33 #[.int .i64 v] w fun e w' => ∃ r, e = .returned r ∧ FrW w.heap.size v 2 r w' ∧ Below w.heap.size w w' := by
  obtain ⟨i0, hi, hz0, hz1, hz2⟩ := info_parts info32
  have hf0 := heap_alloc_new w (.cells #[.bool false, .slice none 0 0] 30)
  have hb0 := hAl w (.cells #[.bool false, .slice none 0 0] 30)
  generalize hE : w.alloc (.cells #[.bool false, .slice none 0 0] 30) = w0 at *
  have E0 := hide hE
  have HF0 := hide hf0
  have HB0 := hide hb0
  clear hE hf0 hb0
  have hw : IntKind.u64.wrap (-IntKind.u64.wrap v) = -v := by rw [IntKind.wrap_u64, IntKind.wrap_u64]; omega
  go_enter Try.func33, Try.ntmps33
  go_wp2
  rw [E0.out]
  clear hw
  go_loopw [3, 4] (fun uv mv wr => ∃ (u : Int) (ls : List Int), uv = .int .u64 u ∧ 0 ≤ u ∧ u < 18446744073709551616 ∧ Limb ls ∧ val ls + pw ls.length * u = -v ∧ (u = 0 → tl ls = ls.length) ∧ wr.ownsRow w0.heap.size 62 1 mv ls.length (ls.map (Value.int .u32)) ∧ Below w0.heap.size w0 wr) (fun uv _ _ => (intOf uv).toNat)
  case atStart => exact ⟨-v, [], rfl, by omega, by omega, limb_nil, by simp [val, pw], fun _ => rfl, World.ownsRow_nil _ _ _ _, Below.refl _ _⟩
  case round =>
    obtain ⟨u, ls, rfl, hu0, hu1, hls, hv, htop, hown, hbel⟩ := hrel
    have HL := hide hls
    have HV := hide hv
    have HT := hide htop
    clear hls hv htop
    by_cases hu : 0 < u
    · have hroom := u_room HL.out hu (by rw [HV.out]; omega)
      have HV' := hide (u_step HV.out)
      have HT' : Hid (u / 4294967296 = 0 → tl (ls ++ [u % 4294967296]) = (ls ++ [u % 4294967296]).length) := fun h => u_top hu h
      go_wp2_with (at_builtin; refine wpList_append_own _ rfl (.tmp 13) (.tmp 16) 28 rfl w0.heap.size 62 i0 (.int .u32 0) 1 4 Try.underlying28 hi hz0 hz1 hz2 rfl (by decide) _ _ _ rfl (hown.alloc _) ⟨wr.heap.size, 0, none⟩ 1 1 [.int .u32 (u % 4294967296)] rfl rfl (cell_one_new _ _ _) ?c2 ?c3 ?c4 ?c5 ?_)
      case c2 => first | rfl | (intro x hx; simp at hx; subst hx; rfl)
      case c3 => unfold maxLen; omega
      case c4 => omega
      case c5 => have := hbel.size; first | omega | (simp; omega)
      intro v4 w4 hown4 hgrow4 _
      have R := own_step hown4 hgrow4 hbel hbel.size hown.lt
      clear hown4 hgrow4 hown
      go_wp2
      go_roundw
      case rel => exact ⟨u / 4294967296, ls ++ [u % 4294967296], rfl, by omega, by omega, limb_append.2 ⟨HL.out, limb_cons.2 ⟨by omega, limb_nil⟩⟩, HV'.out, HT'.out, by simpa using R.1, R.2⟩
      case measure => simp [intOf]; omega
    · have hu' : u = 0 := by omega
      subst hu'
      have hval : val ls = -v := by have := HV.out; rwa [Int.mul_zero, Int.add_zero] at this
      have hcan : Canon ls := ⟨HL.out, HT.out rfl⟩
      have hlen : ls.length ≤ 2 := canon_len hcan (m := 2) (by rw [hval, show pw 2 = 18446744073709551616 from by decide]; omega)
      have how := ow_of_row hown HL.out
      obtain ⟨ao, cap, hmv, _⟩ := id how
      subst hmv
      have hfr : FrW w0.heap.size v 2 (.agg #[.bool true, .slice ao ls.length cap]) wr := by
        refine ⟨_, _, _, _, w0.heap.size, wr.heap.size, rfl, ⟨⟨how, hcan, by rw [hval]; omega, fun hc g off hg => ?_⟩, by simp; omega⟩, Nat.le_refl _, Nat.le_refl _, hlen⟩
        subst hg
        obtain ⟨ao', cap', e1, _, _, _, e4⟩ := how
        simp only [Value.slice.injEq] at e1
        obtain ⟨rfl, _, rfl⟩ := e1
        rcases e4 with e4 | ⟨g', off', cur, e5, hB', hh, _⟩
        · omega
        · simp only [Option.some.injEq, Addr.mk.injEq] at e5
          obtain ⟨rfl, _, _⟩ := e5
          exact ⟨hB', lt_of_heap hh⟩
      have HFR := hide (hfr.low HB0.out.size)
      have HFx := hide ((hbel.block _ (lt_of_heap HF0.out)).trans HF0.out)
      have HBx := hide (HB0.out.trans (hbel.mono HB0.out.size))
      obtain ⟨hfl, c0, c1, fr0, fr1⟩ := two_cells HFx.out
      have hd : decide (v < 0) = true := by simp; omega
      clear hval hown how hfr hbel hcan
      go_wp2
      exact bodyPost_ret (v := .agg #[.bool true, .slice ao ls.length cap]) (res_c (g := w.heap.size) rfl rfl (lvw2 (set_w2 HFx.out _ _))) rfl ⟨_, rfl, HFR.out.ru (ru_w2 HFx.out _ _), (HBx.out.setCell (Nat.le_refl _) _).setCell (Nat.le_refl _) _⟩
set_option maxRecDepth 20000 in
set_option maxHeartbeats 1000000 in
theorem lsmallo_pos (w : World) (v : Int) (h1 : -9223372036854775808 ≤ v) (h2 : v ≤ 9223372036854775807) (h0 : ¬ v < 0) :
    Calls Try.prog 33 #[.int .i64 v] w fun e w' => ∃ r, e = .returned r ∧ FrW w.heap.size v 2 r w' ∧ Below w.heap.size w w' := by
  obtain ⟨i0, hi, hz0, hz1, hz2⟩ := info_parts info32
  have hf0 := heap_alloc_new w (.cells #[.bool false, .slice none 0 0] 30)
  have hb0 := hAl w (.cells #[.bool false, .slice none 0 0] 30)
  generalize hE : w.alloc (.cells #[.bool false, .slice none 0 0] 30) = w0 at *
  have E0 := hide hE
  have HF0 := hide hf0
  have HB0 := hide hb0
  clear hE hf0 hb0
  have hw : True := trivial
  go_enter Try.func33, Try.ntmps33
  go_wp2
  rw [E0.out]
  clear hw
  go_loopw [3, 4] (fun uv mv wr => ∃ (u : Int) (ls : List Int), uv = .int .u64 u ∧ 0 ≤ u ∧ u < 18446744073709551616 ∧ Limb ls ∧ val ls + pw ls.length * u = v ∧ (u = 0 → tl ls = ls.length) ∧ wr.ownsRow w0.heap.size 62 1 mv ls.length (ls.map (Value.int .u32)) ∧ Below w0.heap.size w0 wr) (fun uv _ _ => (intOf uv).toNat)
  case atStart => exact ⟨v, [], rfl, by omega, by omega, limb_nil, by simp [val, pw], fun _ => rfl, World.ownsRow_nil _ _ _ _, Below.refl _ _⟩
  case round =>
    obtain ⟨u, ls, rfl, hu0, hu1, hls, hv, htop, hown, hbel⟩ := hrel
    have HL := hide hls
    have HV := hide hv
    have HT := hide htop
    clear hls hv htop
    by_cases hu : 0 < u
    · have hroom := u_room HL.out hu (by rw [HV.out]; omega)
      have HV' := hide (u_step HV.out)
      have HT' : Hid (u / 4294967296 = 0 → tl (ls ++ [u % 4294967296]) = (ls ++ [u % 4294967296]).length) := fun h => u_top hu h
      go_wp2_with (at_builtin; refine wpList_append_own _ rfl (.tmp 13) (.tmp 16) 28 rfl w0.heap.size 62 i0 (.int .u32 0) 1 4 Try.underlying28 hi hz0 hz1 hz2 rfl (by decide) _ _ _ rfl (hown.alloc _) ⟨wr.heap.size, 0, none⟩ 1 1 [.int .u32 (u % 4294967296)] rfl rfl (cell_one_new _ _ _) ?c2 ?c3 ?c4 ?c5 ?_)
      case c2 => first | rfl | (intro x hx; simp at hx; subst hx; rfl)
      case c3 => unfold maxLen; omega
      case c4 => omega
      case c5 => have := hbel.size; first | omega | (simp; omega)
      intro v4 w4 hown4 hgrow4 _
      have R := own_step hown4 hgrow4 hbel hbel.size hown.lt
      clear hown4 hgrow4 hown
      go_wp2
      go_roundw
      case rel => exact ⟨u / 4294967296, ls ++ [u % 4294967296], rfl, by omega, by omega, limb_append.2 ⟨HL.out, limb_cons.2 ⟨by omega, limb_nil⟩⟩, HV'.out, HT'.out, by simpa using R.1, R.2⟩
      case measure => simp [intOf]; omega
    · have hu' : u = 0 := by omega
      subst hu'
      have hval : val ls = v := by have := HV.out; rwa [Int.mul_zero, Int.add_zero] at this
      have hcan : Canon ls := ⟨HL.out, HT.out rfl⟩
      have hlen : ls.length ≤ 2 := canon_len hcan (m := 2) (by rw [hval, show pw 2 = 18446744073709551616 from by decide]; omega)
      have how := ow_of_row hown HL.out
      obtain ⟨ao, cap, hmv, _⟩ := id how
      subst hmv
      have hfr : FrW w0.heap.size v 2 (.agg #[.bool false, .slice ao ls.length cap]) wr := by
        refine ⟨_, _, _, _, w0.heap.size, wr.heap.size, rfl, ⟨⟨how, hcan, by rw [hval]; omega, fun hc g off hg => ?_⟩, by simp; omega⟩, Nat.le_refl _, Nat.le_refl _, hlen⟩
        subst hg
        obtain ⟨ao', cap', e1, _, _, _, e4⟩ := how
        simp only [Value.slice.injEq] at e1
        obtain ⟨rfl, _, rfl⟩ := e1
        rcases e4 with e4 | ⟨g', off', cur, e5, hB', hh, _⟩
        · omega
        · simp only [Option.some.injEq, Addr.mk.injEq] at e5
          obtain ⟨rfl, _, _⟩ := e5
          exact ⟨hB', lt_of_heap hh⟩
      have HFR := hide (hfr.low HB0.out.size)
      have HFx := hide ((hbel.block _ (lt_of_heap HF0.out)).trans HF0.out)
      have HBx := hide (HB0.out.trans (hbel.mono HB0.out.size))
      obtain ⟨hfl, c0, c1, fr0, fr1⟩ := two_cells HFx.out
      have hd : decide (v < 0) = false := by simp; omega
      clear hval hown how hfr hbel hcan
      go_wp2
      exact bodyPost_ret (v := .agg #[.bool false, .slice ao ls.length cap]) (res_c (g := w.heap.size) rfl rfl (lvw2 (set_w2 HFx.out _ _))) rfl ⟨_, rfl, HFR.out.ru (ru_w2 HFx.out _ _), (HBx.out.setCell (Nat.le_refl _) _).setCell (Nat.le_refl _) _⟩
theorem lsmall_o (w : World) (v : Int) (h1 : -9223372036854775808 ≤ v) (h2 : v ≤ 9223372036854775807) :
    Calls Try.prog 33 #[.int .i64 v] w fun e w' => ∃ r, e = .returned r ∧ FrW w.heap.size v 2 r w' ∧ Below w.heap.size w w' := by
  by_cases h0 : v < 0
  · exact lsmallo_neg w v h1 h2 h0
  · exact lsmallo_pos w v h1 h2 h0
set_option maxRecDepth 20000 in
set_option maxHeartbeats 4000000 in
theorem row_any (w : World) (v : Value) (zs : List Int) (h : Nums w v zs) (hz : ∀ z ∈ zs, -9223372036854775808 ≤ z ∧ z ≤ 9223372036854775807) (hl : zs.length ≤ 1000) :
    Calls Try.prog 20 #[v] w fun e w' => ∃ r, e = .returned r ∧ CanRow w' r zs 2 ∧ Below w.heap.size w w' := by
  obtain ⟨ao, cap, rfl, _⟩ := id h
  have H := hide h
  have HZ := hide hz
  clear h hz
  obtain ⟨n, hn⟩ : ∃ n, zs.length = n := ⟨_, rfl⟩
  rw [hn] at H hl ⊢
  have HN := hide hn
  clear hn
  go_enter Try.func20, Try.ntmps20
  go_wp2_with fail
  go_loopw [3, 4] (fun ov iv wr => ∃ (k : Nat) (es : List WE), iv = .int .i64 k ∧ k ≤ n ∧ Below w.heap.size w wr ∧ es.length = k ∧ RwO w.heap.size wr ov es ∧ ∀ (j : Nat) (e : WE) (z : Int), es[j]? = some e → zs[j]? = some z → Canon e.zs ∧ val e.zs = (z.natAbs : Int) ∧ e.ng = decide (z < 0) ∧ e.zs.length ≤ 2) (fun _ iv _ => n - (intOf iv).toNat)
  case atStart => exact ⟨0, [], rfl, Nat.zero_le _, Below.refl _ _, rfl, rwo_nil _ _, fun j e z he => (by simp at he)⟩
  case round =>
    obtain ⟨k, es, rfl, hk, hbw, hes, hown, hall⟩ := hrel
    have HW := hide hbw
    have HES := hide hes
    have HOWN := hide hown
    have HALL := hide hall
    by_cases hlt : k < n
    · obtain ⟨b, off, rfl, hc⟩ := (show Nums wr (.slice ao n cap) zs from Ce.below H.out hbw).cell (i := k) (by have := HN.out; omega)
      have hget : zs[k]? = some (zs[k]'(by have := HN.out; omega)) := List.getElem?_eq_getElem _
      generalize zs[k]'(by have := HN.out; omega) = z at hc hget
      have HG := hide hget
      have hzb := HZ.out z (List.mem_of_getElem? hget)
      have hlt' : (k : Int) < (n : Int) := by omega
      obtain ⟨aov, capv, hov, _⟩ := Cl.own hown.own
      subst hov
      clear hbw hes hown hall hget
      go_wp2_with fail
      refine (lsmall_o wr z hzb.1 hzb.2).mono ?_
      rintro e w2 ⟨r2, rfl, hf2, hb2⟩
      obtain ⟨ng2, ao2, cap2, rs2, B2, T2, rfl, hwf, hB2, hT2, hl2⟩ := hf2
      have hA := hAl w2 (.cells #[.bool ng2, .slice ao2 rs2.length cap2] 30)
      have hb2' := hb2.trans (hA.mono hb2.size)
      have hR2 := HOWN.out.below hb2'
      have hO2 : One _ w2.heap.size ng2 ao2 rs2.length cap2 := heap_alloc_new w2 (.cells #[.bool ng2, .slice ao2 rs2.length cap2] 30)
      have hS2 : Ow w.heap.size _ (.slice ao2 rs2.length cap2) rs2 := (hwf.fr.ow.mono (Nat.le_trans HW.out.size hB2)).below hA
      have hsz : w.heap.size ≤ (w2.alloc (.cells #[.bool ng2, .slice ao2 rs2.length cap2] 30)).heap.size := Nat.le_trans HW.out.size hb2'.size
      go_wp2_with (at_builtin; refine wpList_does rfl (op_appr (i := 11) (j := 17) rfl rfl hR2 hO2 hS2 (by rw [HES.out]; omega) hsz) ?_)
      intro v3 w3 hR3 hb3
      obtain ⟨aov3, capv3, hov3, _⟩ := Cl.own hR3.own
      subst hov3
      have HR3 := hide hR3
      have HB3 := hide ((HW.out.trans (hb2'.mono HW.out.size)).trans hb3)
      have HWF := hide hwf
      clear hR3 hb3 hR2 hO2 hS2 hsz hA hb2 hb2' hwf hB2 hT2
      go_wp2
      go_roundw
      case rel =>
        refine ⟨k + 1, es ++ [⟨ng2, ao2, rs2.length, cap2, rs2⟩], by go_num, by omega, HB3.out, by simp [HES.out], HR3.out, fun j e y he hy => ?_⟩
        by_cases hj : j < es.length
        · rw [List.getElem?_append_left hj] at he
          exact HALL.out j e y he hy
        · have hjl := (List.getElem?_eq_some_iff.1 he).1
          simp at hjl
          obtain rfl : j = es.length := by omega
          rw [List.getElem?_append_right (Nat.le_refl _)] at he
          simp at he
          subst he
          rw [HES.out, HG.out] at hy
          obtain rfl := Option.some.inj hy
          exact ⟨HWF.out.fr.canon, HWF.out.fr.val, HWF.out.sgn, hl2⟩
      case measure => simp [intOf]; omega
    · have hlt' : decide ((k : Int) < (n : Int)) = false := by simp; omega
      have hkn : k = n := by omega
      subst hkn
      clear hbw hes hown hall
      go_wp2
      refine bodyPost_ret (v := _) (res_t rfl rfl) rfl ⟨_, rfl, ⟨es, HOWN.out.rw, by rw [HES.out, HN.out], HALL.out⟩, HW.out⟩
end Lm
end Go.Proofs.Ytodgiglhconkoaa

namespace Go.Proofs.Ytodgiglhconkoaa
namespace Lm
open Go Go.RowKit
theorem and62 (n : Int) : bits .and .i64 n 4611686018427387903 = n % 4611686018427387904 := by
  have h63 : (BitVec.ofInt 64 4611686018427387903).toNat = 2 ^ 62 - 1 := by decide
  have key : (BitVec.ofInt 64 n &&& BitVec.ofInt 64 4611686018427387903).toNat = (n % ((2 ^ 64 : Nat) : Int)).toNat % 2 ^ 62 := by
    rw [BitVec.toNat_and, BitVec.toNat_ofInt, h63, Nat.and_two_pow_sub_one_eq_mod]
  show IntKind.i64.wrap ((BitVec.ofInt 64 n &&& BitVec.ofInt 64 4611686018427387903).toNat : Nat) = n % 4611686018427387904
  rw [key, IntKind.wrap_i64]
  omega
theorem pick_v (v : Int) (m : Nat) (hm : m ≠ 0) : ∃ V : Nat, (bits .and .i64 v 4611686018427387903).tmod (m : Int) = (V : Int) ∧ V < m := by
  rw [and62]
  obtain ⟨u, hu⟩ : ∃ u : Nat, v % 4611686018427387904 = (u : Int) := ⟨(v % 4611686018427387904).toNat, by omega⟩
  rw [hu]
  exact ⟨u % m, by rw [Int.ofNat_tmod], Nat.mod_lt _ (by omega)⟩
end Lm
end Go.Proofs.Ytodgiglhconkoaa

