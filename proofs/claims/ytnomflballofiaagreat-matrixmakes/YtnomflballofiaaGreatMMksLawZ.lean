/-
  The given statement on MatrixMakes, for every input: the call answers true, and each argument reads behind it as it read before. No condition beyond the statement's own. Beside it: Rows of fractions that are made: turned into fractions; which of them are too long. Package matrix: which fractions of a row are too long; what Solve makes of a number. Package matrix: Solve. What Solve answers makes right; the rank with right beside. No program is walked here. Single operations of MatrixMakes: rows that are laid beside, fractions. LenWholes and LenRows of rows of any length: what they answer is the length as an int. The law on what Solve answers, for rows of any length.
-/
import Derived.Test.YtnomflballofiaaGreatRows
import Derived.ProofKit
import Derived.OpenShut
import Derived.ShutString
import Derived.ChangeOld
import Derived.SizedLaws
import Derived.Test.YtnomflballofiaaGreatMMksLawZ4
namespace Go.Proofs.YtnomflballofiaaGreat
namespace Lm
open Go Go.RowKit Md
structure FE where
  ng : Bool
  a : Option Addr
  m : Nat
  c : Nat
  d : Option Addr
  k : Nat
  e : Nat
def FE.v (x : FE) : Value := .agg #[.bool x.ng, .slice x.a x.m x.c, .slice x.d x.k x.e]
def f3 : List FE → List Value
  | [] => []
  | x :: es => .bool x.ng :: .slice x.a x.m x.c :: .slice x.d x.k x.e :: f3 es
theorem f3_length (es : List FE) : (f3 es).length = es.length * 3 := by
  induction es with
  | nil => rfl
  | cons e es ih => simp only [f3, List.length_cons, ih]; omega
theorem f3_at {es : List FE} {i : Nat} {x : FE} (h : es[i]? = some x) : (f3 es)[i * 3]? = some (.bool x.ng) ∧ (f3 es)[i * 3 + 1]? = some (.slice x.a x.m x.c) ∧ (f3 es)[i * 3 + 2]? = some (.slice x.d x.k x.e) := by
  induction es generalizing i with
  | nil => simp at h
  | cons u es ih =>
    cases i with
    | zero =>
      simp at h
      subst h
      simp [f3]
    | succ i =>
      have := ih (i := i) (by simpa using h)
      simp only [f3, show (i + 1) * 3 = i * 3 + 3 from by omega]
      simpa using this
theorem f3_set (es : List FE) (i : Nat) (x : FE) (h : i < es.length) : f3 (es.set i x) = (((f3 es).set (i * 3) (.bool x.ng)).set (i * 3 + 1) (.slice x.a x.m x.c)).set (i * 3 + 2) (.slice x.d x.k x.e) := by
  induction es generalizing i with
  | nil => simp at h
  | cons u es ih =>
    cases i with
    | zero => simp [f3]
    | succ i =>
      have := ih i (by simpa using h)
      simp only [List.set_cons_succ, f3, show (i + 1) * 3 = i * 3 + 3 from by omega, this, List.set_cons_succ]
theorem f3_no (es : List FE) (i : Nat) (z : Int) : (f3 es).toArray[i]? ≠ some (.int .u32 z) := by
  rw [List.getElem?_toArray]
  induction es generalizing i with
  | nil => simp [f3]
  | cons u es ih =>
    match i with
    | 0 => simp [f3]
    | 1 => simp [f3]
    | 2 => simp [f3]
    | i + 3 => simpa [f3] using ih i
theorem made_f3 (n : Nat) : (madeCells #[.bool false, .slice none 0 0, .slice none 0 0] (n * 3)).toList = f3 (List.replicate n ⟨false, none, 0, 0, none, 0, 0⟩) := by
  apply List.ext_getElem?
  intro i
  rw [Array.getElem?_toList]
  by_cases hi : i < n * 3
  · have hk : i / 3 < n := by omega
    have h1 : (List.replicate n (⟨false, none, 0, 0, none, 0, 0⟩ : FE))[i / 3]? = some ⟨false, none, 0, 0, none, 0, 0⟩ := by rw [List.getElem?_replicate, if_pos hk]
    obtain ⟨e1, e2, e3⟩ := f3_at h1
    have e0 : (madeCells #[.bool false, .slice none 0 0, .slice none 0 0] (n * 3))[i]? = some ((#[.bool false, .slice none 0 0, .slice none 0 0] : Array Value)[i % 3]!) := by
      simp [madeCells, hi]
    rw [e0]
    rcases (show i % 3 = 0 ∨ i % 3 = 1 ∨ i % 3 = 2 by omega) with h | h | h
    · rw [h, ← show i / 3 * 3 = i from by omega, e1]; rfl
    · rw [h, ← show i / 3 * 3 + 1 = i from by omega, e2]; rfl
    · rw [h, ← show i / 3 * 3 + 2 = i from by omega, e3]; rfl
  · rw [Array.getElem?_eq_none (by rw [size_madeCells]; omega), List.getElem?_eq_none (by rw [f3_length]; simp; omega)]
theorem OutQr.ru {r : Rat} {L : Nat} {v : Value} {w w' : World} (h : OutQr r L v w) (hr : Ru w w') : OutQr r L v w' := OutR.mono5 _ _ _ _ _ _ hr h
def QRow (w : World) (bv n k : Nat) (rs : List Rat) (L : Nat) : Prop := ∃ fs : List FE, fs.length = n ∧ w.heap[bv]? = some (.cells (f3 fs).toArray 46 (0, 0)) ∧ ∀ (i : Nat) (f : FE) (r : Rat), i < k → fs[i]? = some f → rs[i]? = some r → OutQr r L f.v w
theorem QRow.below {w w' : World} {bv n k : Nat} {rs : List Rat} {L : Nat} (h : QRow w bv n k rs L) (hb : Below w.heap.size w w') : QRow w' bv n k rs L := by
  obtain ⟨fs, h1, h2, h3⟩ := h
  exact ⟨fs, h1, (hb.block _ (lt_of_heap h2)).trans h2, fun i f r a b c => (h3 i f r a b c).ru (Ru.of_below hb)⟩
theorem QRow.lt {w : World} {bv n k : Nat} {rs : List Rat} {L : Nat} (h : QRow w bv n k rs L) : bv < w.heap.size := by
  obtain ⟨fs, h1, h2, h3⟩ := h
  exact lt_of_heap h2
theorem QRow.cells {w : World} {bv n k : Nat} {rs : List Rat} {L i : Nat} (h : QRow w bv n k rs L) (hi : i < n) : ∃ x : FE, w.cell? ⟨bv, i * 3, none⟩ = some (.bool x.ng) ∧ w.cell? ⟨bv, i * 3 + 1, none⟩ = some (.slice x.a x.m x.c) ∧ w.cell? ⟨bv, i * 3 + 2, none⟩ = some (.slice x.d x.k x.e) ∧ (w.frozen? ⟨bv, i * 3, none⟩ = false ∧ w.frozen? ⟨bv, i * 3 + 1, none⟩ = false ∧ w.frozen? ⟨bv, i * 3 + 2, none⟩ = false) ∧ (i < k → ∀ r, rs[i]? = some r → OutQr r L x.v w) := by
  obtain ⟨fs, h1, h2, h3⟩ := h
  obtain ⟨x, hx⟩ : ∃ x, fs[i]? = some x := ⟨_, List.getElem?_eq_getElem (by omega)⟩
  obtain ⟨f1, f2, f4⟩ := f3_at hx
  refine ⟨x, ?_, ?_, ?_, ⟨frozen_of_row _ _ _ _ _ h2, frozen_of_row _ _ _ _ _ h2, frozen_of_row _ _ _ _ _ h2⟩, fun hk r hr => h3 i x r hk hx hr⟩ <;> rw [cell_of_row _ _ _ _ _ (0, 0) h2, List.getElem?_toArray] <;> assumption
theorem QRow.put {w : World} {bv n k : Nat} {rs : List Rat} {L : Nat} {r : Rat} {x : FE} (h : QRow w bv n k rs L) (hk : k < n) (hr : rs[k]? = some r) (hx : OutQr r L x.v w) :
    QRow (((w.setCell ⟨bv, k * 3, none⟩ (.bool x.ng)).setCell ⟨bv, k * 3 + 1, none⟩ (.slice x.a x.m x.c)).setCell ⟨bv, k * 3 + 2, none⟩ (.slice x.d x.k x.e)) bv n (k + 1) rs L ∧ Tch bv w (((w.setCell ⟨bv, k * 3, none⟩ (.bool x.ng)).setCell ⟨bv, k * 3 + 1, none⟩ (.slice x.a x.m x.c)).setCell ⟨bv, k * 3 + 2, none⟩ (.slice x.d x.k x.e)) := by
  obtain ⟨fs, h1, h2, h3⟩ := h
  have ht : Tch bv w (((w.setCell ⟨bv, k * 3, none⟩ (.bool x.ng)).setCell ⟨bv, k * 3 + 1, none⟩ (.slice x.a x.m x.c)).setCell ⟨bv, k * 3 + 2, none⟩ (.slice x.d x.k x.e)) := ((set_tch w bv (k * 3) _).trans (set_tch _ bv (k * 3 + 1) _)).trans (set_tch _ bv (k * 3 + 2) _)
  have s1 := heap_setCell_same w bv (k * 3) _ _ (.bool x.ng) h2
  have s2 := heap_setCell_same _ bv (k * 3 + 1) _ _ (.slice x.a x.m x.c) s1
  have s3 := heap_setCell_same _ bv (k * 3 + 2) _ _ (.slice x.d x.k x.e) s2
  have hru : Ru w (((w.setCell ⟨bv, k * 3, none⟩ (.bool x.ng)).setCell ⟨bv, k * 3 + 1, none⟩ (.slice x.a x.m x.c)).setCell ⟨bv, k * 3 + 2, none⟩ (.slice x.d x.k x.e)) := Ru.of_one h2 (by decide) (f3_no fs) ht.size (fun k hk hn => ht.other k hk hn)
  refine ⟨⟨fs.set k x, by simp [h1], ?_, fun i f r' hi hf hr' => ?_⟩, ht⟩
  · rw [s3, f3_set fs k x (by omega)]
    simp
  · by_cases e : k = i
    · subst e
      rw [List.getElem?_set_self (by omega)] at hf
      obtain rfl := Option.some.inj hf
      rw [hr] at hr'
      obtain rfl := Option.some.inj hr'
      exact hx.ru hru
    · rw [List.getElem?_set_ne e] at hf
      exact (h3 i f r' (by omega) hf hr').ru hru
def TurnQ (w : World) (f : FuncId) (cap : Array Value) (zs : List Int) (L M : Nat) (G : Nat → Rat) : Prop := ∀ (W : World) (c : Nat) (z : Int) (xv : Value), Below w.heap.size w W → zs[c]? = some z → IsW z L xv W → Calls Tryz.prog f (#[.int .i64 (c : Int), xv] ++ cap) W fun e W' => ∃ v, e = .returned v ∧ OutQr (G c) M v W' ∧ Below W.heap.size W W'
def qRow (G : Nat → Rat) (n : Nat) : List Rat := (List.range n).map G
theorem qRow_len (G : Nat → Rat) (n : Nat) : (qRow G n).length = n := by simp [qRow]
theorem qRow_at {G : Nat → Rat} {n k : Nat} (h : k < n) : (qRow G n)[k]? = some (G k) := by simp [qRow, h]
theorem OutQr.agg {r : Rat} {L : Nat} {v : Value} {w : World} (h : OutQr r L v w) : ∃ x : FE, v = x.v := by
  obtain ⟨ng, ao, cap, rs, bo, dap, ss, e, _⟩ := h
  exact ⟨⟨ng, ao, rs.length, cap, bo, ss.length, dap⟩, e⟩
theorem infoQz : (Tryz.prog.info? 46).map (fun i => (i.zero, i.size, i.bytes)) = some (some (.agg #[.bool false, .slice none 0 0, .slice none 0 0]), 3, 56) := by kernel_rfl
set_option maxRecDepth 20000 in
set_option maxHeartbeats 8000000 in
theorem turnedQ_any (w : World) (v : Value) (zs : List Int) (L M : Nat) (h : IsRow w v zs L) (hl : zs.length ≤ 1000) (f : FuncId) (hf : Has Tryz.prog f) (cap : Array Value) (G : Nat → Rat) (hT : TurnQ w f cap zs L M G) :
    Calls Tryz.prog 42 #[v, .func (.func f) #[] cap] w fun e w' => e = .returned (.slice (some ⟨w.heap.size, 0, none⟩) zs.length zs.length) ∧ QRow w' w.heap.size zs.length zs.length (qRow G zs.length) M ∧ Below w.heap.size w w' := by
  obtain ⟨ao, cp, rfl, _⟩ := h.parts
  have H := hide h
  have HTN := hide hT
  clear h hT
  obtain ⟨n, hnn⟩ : ∃ n, zs.length = n := ⟨_, rfl⟩
  rw [hnn] at H hl ⊢
  have HN := hide hnn
  clear hnn
  obtain ⟨iW, hi, hz0, hz1, hz2⟩ := info_parts infoQz
  go_enter Tryz.func42, Tryz.ntmps42
  go_wp2_with (refine wpList_make_full _ rfl (.tmp 9) (.tmp 9) 42 rfl w.heap.size 46 iW (.agg #[.bool false, .slice none 0 0, .slice none 0 0]) 3 Tryz.underlying42 hi hz0 hz1 .i64 .i64 _ _ n rfl rfl (by omega) (by omega) (by rw [hz2]; omega) (by unfold maxLen; omega) (Nat.le_refl _) ?hK)
  case hK =>
    intro w2 hown hgrow
    have hb2 : Below w.heap.size w w2 := (Below.refl _ _).grown hgrow (Nat.le_refl _) (by simp)
    obtain ⟨_, hmb⟩ := made_block hown
    rw [made_f3] at hmb
    have HP0 : Hid (QRow w2 w.heap.size n 0 (qRow G n) M) := (⟨_, List.length_replicate, hmb, fun i f r hi => by omega⟩ : QRow _ _ _ _ _ _)
    have HB := hide hb2
    clear hown hgrow hmb hb2
    go_wp2
    go_loopw [6, 7, 13] (fun _ _ iv wr => ∃ (k : Nat), iv = .int .i64 k ∧ k ≤ n ∧ Below w.heap.size w wr ∧ QRow wr w.heap.size n k (qRow G n) M) (fun _ _ iv _ => n - (intOf iv).toNat)
    case atStart => exact ⟨0, rfl, Nat.zero_le _, HB.out, HP0.out⟩
    case round =>
      obtain ⟨k, rfl, hk, hbw, hp⟩ := hrel
      have HW := hide hbw
      have HP := hide hp
      by_cases hlt : k < n
      · obtain ⟨z, hz⟩ : ∃ z, zs[k]? = some z := ⟨_, List.getElem?_eq_getElem (by have := HN.out; omega)⟩
        obtain ⟨b, off, ngx, ax, mx, cx, rfl, hbl, x0, x1, hx⟩ := H.out.cell hz
        replace x0 := (hbw.cell (p := ⟨b, off + k * 2, none⟩) hbl).trans x0
        replace x1 := (hbw.cell (p := ⟨b, off + k * 2 + 1, none⟩) hbl).trans x1
        have hlt' : (k : Int) < (n : Int) := by omega
        have hba : Below wr.heap.size wr (wr.alloc (.cells #[.bool ngx, .slice ax mx cx] 38)) := hAl _ _
        have KC := hide (HTN.out _ k z (.agg #[.bool ngx, .slice ax mx cx]) (hbw.trans (hba.mono hbw.size)) hz ((hx.ru (Ru.of_below hbw)).ru (Ru.of_below hba)))
        clear hbw hp hx hz
        have hE : ∀ args w, (callFunc f args).run Tryz.prog w = .ok (.enter f args) w := fun args w => hf.enter args w
        go_wp2_with fail
        refine KC.out.mono ?_
        rintro e w3 ⟨v1, rfl, h1, hb3⟩
        have hb3' := hba.trans (hb3.mono hba.size)
        obtain ⟨x, rfl⟩ := h1.agg
        have hP3 := HP.out.below hb3'
        obtain ⟨y, y0, y1, y2, ⟨yf0, yf1, yf2⟩, _⟩ := hP3.cells hlt
        have hput := hP3.put hlt (qRow_at hlt) h1
        have hpl := hP3.lt
        have HPT := hide hput
        have HB3 := hide (HW.out.trans (hb3'.mono HW.out.size))
        clear h1 hb3 hb3' hba x0 x1 KC hE hP3 hput
        unfold FE.v
        go_wp2
        go_roundw
        case rel => exact ⟨k + 1, by go_num, by omega, HB3.out.trans (HPT.out.2.below HB3.out.size (Nat.le_refl _)), HPT.out.1⟩
        case measure => simp [intOf]; omega
      · have hlt' : decide ((k : Int) < (n : Int)) = false := by simp; omega
        have hkn : k = n := by omega
        subst hkn
        clear hbw hp
        go_wp2
        refine bodyPost_ret (v := _) (by simp [results, Tryz.results42, go_sem]; try rfl) rfl ⟨rfl, HP.out, HW.out⟩
end Lm
end Go.Proofs.YtnomflballofiaaGreat

namespace Go.Proofs.YtnomflballofiaaGreat
namespace Lm
open Go Go.RowKit Md
def AsksQ (w : World) (f : FuncId) (cap : Array Value) (rs : List Rat) (L : Nat) (p : Rat → Bool) : Prop := ∀ (W : World) (r : Rat) (xv : Value), Below w.heap.size w W → r ∈ rs → OutQr r L xv W → Calls Tryz.prog f (#[xv] ++ cap) W fun e W' => e = .returned (.bool (p r)) ∧ Below W.heap.size W W'
set_option maxRecDepth 20000 in
set_option maxHeartbeats 4000000 in
theorem indexq_any (w : World) (bv : Nat) (rs : List Rat) (L : Nat) (h : QRow w bv rs.length rs.length rs L) (hn : rs.length ≤ 1000) (f : FuncId) (hf : Has Tryz.prog f) (cap : Array Value) (p : Rat → Bool) (hA : AsksQ w f cap rs L p) :
    Calls Tryz.prog 104 #[.slice (some ⟨bv, 0, none⟩) rs.length rs.length, .func (.func f) #[] cap] w fun e w' => (∃ r : Int, e = .returned (.int .i64 r) ∧ decide (0 ≤ r) = rs.any p) ∧ Below w.heap.size w w' := by
  have H := hide h
  have HA := hide hA
  have hlt0 := h.lt
  clear h hA
  obtain ⟨n, hnn⟩ : ∃ n, rs.length = n := ⟨_, rfl⟩
  rw [hnn] at H hn ⊢
  have HN := hide hnn
  clear hnn
  go_enter Tryz.func104, Tryz.ntmps104
  go_wp2
  go_loopw [5, 8] (fun _ iv wr => ∃ (k : Nat), iv = .int .i64 k ∧ k ≤ n ∧ (rs.take k).any p = false ∧ Below w.heap.size w wr) (fun _ iv _ => n - (intOf iv).toNat)
  case atStart => exact ⟨0, rfl, Nat.zero_le _, by simp, Below.refl _ _⟩
  case round =>
    obtain ⟨k, rfl, hk, hany, hbw⟩ := hrel
    have HW := hide hbw
    have HY := hide hany
    by_cases hlt : k < n
    · obtain ⟨z, hz⟩ : ∃ z, rs[k]? = some z := ⟨_, List.getElem?_eq_getElem (by have := HN.out; omega)⟩
      obtain ⟨x, x0, x1, x2, _, hx⟩ := H.out.cells hlt
      have hx := hx hlt z hz
      replace x0 := (hbw.cell (p := ⟨bv, k * 3, none⟩) hlt0).trans x0
      replace x1 := (hbw.cell (p := ⟨bv, k * 3 + 1, none⟩) hlt0).trans x1
      replace x2 := (hbw.cell (p := ⟨bv, k * 3 + 2, none⟩) hlt0).trans x2
      have hlt' : (k : Int) < (n : Int) := by omega
      have KC := HA.out wr z _ hbw (List.mem_of_getElem? hz) (hx.ru (Ru.of_below hbw))
      unfold FE.v at KC
      have KC := hide KC
      have HZ := hide hz
      clear hbw hany hx hz
      have hE : ∀ args w, (callFunc f args).run Tryz.prog w = .ok (.enter f args) w := fun args w => hf.enter args w
      go_wp2_with fail
      refine KC.out.mono ?_
      rintro e w3 ⟨rfl, hb3⟩
      have HB3 := hide (HW.out.trans (hb3.mono HW.out.size))
      clear hb3 KC hE x0 x1 x2
      obtain ⟨pz, hpz⟩ : ∃ b, p z = b := ⟨_, rfl⟩
      rw [hpz]
      have HPZ := hide hpz
      clear hpz
      cases pz with
      | true =>
        go_wp2
        go_ret
        exact ⟨⟨k, rfl, by rw [decide_eq_true (by omega), eq_comm, List.any_eq_true]; exact ⟨z, List.mem_of_getElem? HZ.out, HPZ.out⟩⟩, HB3.out⟩
      | false =>
        go_wp2
        go_roundw
        case rel => exact ⟨k + 1, by go_num, by omega, any_take HZ.out HY.out HPZ.out, HB3.out⟩
        case measure => simp [intOf]; omega
    · have hlt' : decide ((k : Int) < (n : Int)) = false := by simp; omega
      clear hbw hany
      go_wp2
      go_ret
      refine ⟨⟨-1, rfl, ?_⟩, HW.out⟩
      have := HY.out
      rw [List.take_of_length_le (by have := HN.out; omega)] at this
      rw [this]; rfl
theorem containsq_any (w : World) (bv : Nat) (rs : List Rat) (L : Nat) (h : QRow w bv rs.length rs.length rs L) (hn : rs.length ≤ 1000) (f : FuncId) (hf : Has Tryz.prog f) (cap : Array Value) (p : Rat → Bool) (hA : AsksQ w f cap rs L p) :
    Calls Tryz.prog 82 #[.slice (some ⟨bv, 0, none⟩) rs.length rs.length, .func (.func f) #[] cap] w fun e w' => e = .returned (.bool (rs.any p)) ∧ Below w.heap.size w w' := by
  have K := hide (indexq_any w bv rs L h hn f hf cap p hA)
  clear h hA
  go_enter Tryz.func82, Tryz.ntmps82
  go_wp2_with fail
  refine K.out.mono ?_
  rintro e w1 ⟨⟨r, rfl, hr⟩, hb⟩
  have HB := hide hb
  have HR := hide hr
  clear hb K hr
  go_wp2
  refine bodyPost_ret (v := _) (by simp [results, Tryz.results82, go_sem]; try rfl) rfl ⟨by rw [← HR.out], HB.out⟩
theorem has_longq1 : Has Tryz.prog 83 := by unfold Has; kernel_rfl
theorem has_qlimbs : Has Tryz.prog 46 := by unfold Has; kernel_rfl
set_option maxRecDepth 20000 in
set_option maxHeartbeats 4000000 in
theorem longq1_any (W : World) (r : Rat) (L : Nat) (xv : Value) (g : Nat) (T : TypeId) (hg : W.heap[g]? = some (.cells #[.func (.func 46) #[] #[]] T (0, 0))) (hx : OutQr r L xv W) (hL : 2 * (L + 2) ≤ 100000) :
    Calls Tryz.prog 83 #[xv, .pointer (some ⟨g, 0, none⟩)] W fun e W' => e = .returned (.bool (bigQ r)) ∧ Below W.heap.size W W' := by
  obtain ⟨x, rfl⟩ := hx.agg
  unfold FE.v at hx ⊢
  have hba := hAl W (.cells #[.bool x.ng, .slice x.a x.m x.c, .slice x.d x.k x.e] 46)
  have KL := hide (rlimbs_q _ _ r L (hx.ru (Ru.of_below hba)) hL)
  obtain ⟨hgl, c0, _⟩ := one_cell hg
  have hE : ∀ args w, (callFunc 46 args).run Tryz.prog w = .ok (.enter 46 args) w := fun args w => has_qlimbs.enter args w
  have HBA := hide hba
  clear hx hg hba
  go_enter Tryz.func83, Tryz.ntmps83
  go_wp2_with fail
  refine KL.out.mono ?_
  rintro e w1 ⟨m, rfl, hm, hb⟩
  have HB := hide (HBA.out.trans (hb.mono HBA.out.size))
  have hbg : bigQ r = decide ((m : Int) > 32) := by
    cases hq : bigQ r with
    | false => rw [eq_comm, decide_eq_false_iff_not]; have := hm.2 ((bigQ_iff r).1 hq); omega
    | true =>
      rw [eq_comm, decide_eq_true_iff]
      apply Classical.byContradiction
      intro hno
      have := (bigQ_iff r).2 (hm.1 (by omega))
      rw [hq] at this
      cases this
  clear hb KL hm
  have HBG := hide hbg
  clear hbg
  go_wp2
  refine bodyPost_ret (v := _) (by simp [results, Tryz.results83, go_sem]; try rfl) rfl ⟨by rw [HBG.out], HB.out⟩
set_option maxRecDepth 20000 in
set_option maxHeartbeats 4000000 in
theorem longq_any (w : World) (bv : Nat) (rs : List Rat) (L : Nat) (h : QRow w bv rs.length rs.length rs L) (hn : rs.length ≤ 1000) (hL : 2 * (L + 2) ≤ 100000) :
    Calls Tryz.prog 45 #[.slice (some ⟨bv, 0, none⟩) rs.length rs.length, .func (.func 46) #[] #[]] w fun e w' => e = .returned (.bool (rs.any bigQ)) ∧ Below w.heap.size w w' := by
  have key : ∀ T : TypeId, Hid (Calls Tryz.prog 82 #[.slice (some ⟨bv, 0, none⟩) rs.length rs.length, .func (.func 83) #[] #[.pointer (some ⟨w.heap.size, 0, none⟩)]] (w.alloc (.cells #[.func (.func 46) #[] #[]] T)) fun e w' => e = .returned (.bool (rs.any bigQ)) ∧ Below w.heap.size w w') := fun T => by
    have hb := hAl w (.cells #[.func (.func 46) #[] #[]] T)
    have hnew := heap_alloc_new w (.cells #[.func (.func 46) #[] #[]] T)
    refine (containsq_any _ bv rs L (h.below hb) hn _ has_longq1 _ bigQ (fun W z xv hbW hz hx => ?_)).mono ?_
    · exact longq1_any W z L xv w.heap.size T ((hbW.block _ (lt_of_heap hnew)).trans hnew) hx hL
    · rintro e w' ⟨rfl, hb'⟩
      exact ⟨rfl, hb.trans (hb'.mono hb.size)⟩
  clear h
  have hmf : ∀ (fn : Fn) (first cap : Array Value) (w : World), (Instr.makeFunc fn first cap).run Tryz.prog w = .ok (.func fn first cap) w := fun _ _ _ _ => rfl
  go_enter Tryz.func45, Tryz.ntmps45
  go_wp2_with fail
  refine (key _).out.mono ?_
  rintro e w1 ⟨rfl, hb⟩
  have HB := hide hb
  clear hb key
  go_wp2
  refine bodyPost_ret (v := _) (by simp [results, Tryz.results45, go_sem]; try rfl) rfl ⟨rfl, HB.out⟩
set_option maxRecDepth 20000 in
set_option maxHeartbeats 8000000 in
theorem solve1_any (W : World) (k q : Nat) (xv rv pv : Value) (z u : Int) (L : Nat) (ng : Bool) (la : Option Addr) (lm lc : Nat) (hq : W.heap[q]? = some (.cells #[rv, pv, .bool ng, .slice la lm lc] 54 (0, 0))) (hu : IsW u L (.agg #[.bool ng, .slice la lm lc]) W) (hx : IsW z L xv W) (hL : L ≤ 50000) (hne : u ≠ 0) :
    Calls Tryz.prog 43 #[.int .i64 (k : Int), xv, .pointer (some ⟨q, 0, none⟩)] W fun e W' => ∃ v, e = .returned v ∧ OutQr (Rat.divInt z u) L v W' ∧ Below W.heap.size W W' := by
  obtain ⟨n1, a1, m1, c1, xs, rfl, _⟩ := id hx
  have hf : Fit (Rat.divInt z u) L := fit_divInt hne (isw_lt hx) (isw_lt hu)
  obtain ⟨w2, hw2⟩ : ∃ w2, (W.alloc (.cells #[.bool n1, .slice a1 m1 c1] 38)).alloc (.cells #[.bool false, .slice none 0 0, .slice none 0 0] 46) = w2 := ⟨_, rfl⟩
  have hb2 : Below W.heap.size W w2 := by rw [← hw2]; (repeat' (first | (with_reducible exact Below.refl _ _) | (with_reducible assumption) | (with_reducible refine gdrewN ?_ _) | (with_reducible refine Below.alloc ?_ ?_ _) | (with_reducible refine Below.drew ?_) | (with_reducible refine Below.setCell ?_ ?_ _) | go_size))
  have hres : w2.heap[W.heap.size + 1]? = some (.cells #[.bool false, .slice none 0 0, .slice none 0 0] 46 (0, 0)) := by
    rw [← hw2]
    have := heap_alloc_new (W.alloc (.cells #[.bool n1, .slice a1 m1 c1] 38)) (.cells #[.bool false, .slice none 0 0, .slice none 0 0] 46)
    simpa using this
  have hxb : w2.heap[W.heap.size]? = some (.cells #[.bool n1, .slice a1 m1 c1] 38 (0, 0)) := by
    rw [← hw2]
    exact (hAl _ _).block _ (by simp) |>.trans (heap_alloc_new W _)
  have KO := hide (rof_q w2 _ _ z u L L (hx.ru (Ru.of_below hb2)) (hu.ru (Ru.of_below hb2)) (by omega))
  have hq2 := (hb2.block _ (lt_of_heap hq)).trans hq
  have q2 := cell_of_row _ _ 2 _ _ (0, 0) hq2
  have q3 := cell_of_row _ _ 3 _ _ (0, 0) hq2
  simp at q2 q3
  have hql := lt_of_heap hq2
  obtain ⟨xbl, b0, b1, _⟩ := two_cells hxb
  have HB2 := hide hb2
  have HR := hide hres
  have HW2 := hide hw2
  have HF := hide hf
  clear hq hu hx hb2 hres hxb hq2 hf
  go_enter Tryz.func43, Tryz.ntmps43
  go_wp2_with (rw [HW2.out])
  refine KO.out.mono ?_
  rintro e w3 ⟨hb3, ⟨_, v3, rfl, ho⟩ | ⟨h0, _⟩⟩
  case inr => exact absurd h0 hne
  have ho := ho.fit HF.out
  obtain ⟨x, rfl⟩ := ho.agg
  have hr3 := (hb3.block _ (lt_of_heap HR.out)).trans HR.out
  have hba := hAl w3 (.cells #[.bool x.ng, .slice x.a x.m x.c, .slice x.d x.k x.e] 46)
  have hr4 := (hba.block _ (lt_of_heap hr3)).trans hr3
  obtain ⟨rl, r0, r1, r2, rf0, rf1, rf2⟩ := three_cells hr4
  have hru : Ru (w3.alloc (.cells #[.bool x.ng, .slice x.a x.m x.c, .slice x.d x.k x.e] 46)) ((((w3.alloc (.cells #[.bool x.ng, .slice x.a x.m x.c, .slice x.d x.k x.e] 46)).setCell ⟨W.heap.size + 1, 0, none⟩ (.bool x.ng)).setCell ⟨W.heap.size + 1, 1, none⟩ (.slice x.a x.m x.c)).setCell ⟨W.heap.size + 1, 2, none⟩ (.slice x.d x.k x.e)) := by
    have t : Tch (W.heap.size + 1) _ _ := ((set_tch (w3.alloc (.cells #[.bool x.ng, .slice x.a x.m x.c, .slice x.d x.k x.e] 46)) (W.heap.size + 1) 0 (.bool x.ng)).trans (set_tch _ _ 1 (.slice x.a x.m x.c))).trans (set_tch _ _ 2 (.slice x.d x.k x.e))
    refine Ru.of_one hr4 (by decide) (fun i z hz => ?_) t.size (fun k hk hn => t.other k hk hn)
    match i with
    | 0 => simp at hz
    | 1 => simp at hz
    | 2 => simp at hz
    | i + 3 => simp at hz
  have HO := hide ((ho.ru (Ru.of_below hba)).ru hru)
  have HR4 := hide hr4
  have hb4 := HB2.out.trans (hb3.mono HB2.out.size)
  have HB4 := hide (((hb4.trans (hba.mono hb4.size)).setCell (p := ⟨W.heap.size + 1, 0, none⟩) (Nat.le_succ _) (.bool x.ng)).setCell (p := ⟨W.heap.size + 1, 1, none⟩) (Nat.le_succ _) (.slice x.a x.m x.c) |>.setCell (p := ⟨W.heap.size + 1, 2, none⟩) (Nat.le_succ _) (.slice x.d x.k x.e))
  clear ho hr3 hba hr4 hru hb4 hb3 KO b0 b1 q2 q3
  unfold FE.v
  go_wp2
  exact bodyPost_ret (v := x.v) (res_c (g := W.heap.size + 1) rfl rfl (lvr3 (set_r3 HR4.out _ _ _))) rfl ⟨_, rfl, HO.out, HB4.out⟩
end Lm
end Go.Proofs.YtnomflballofiaaGreat

namespace Go.Proofs.YtnomflballofiaaGreat
namespace Lm
open Go Go.RowKit Md
theorem ORow.cellF {K : Nat} {w : World} {v : Value} {zs : List Int} {L k : Nat} {z : Int} (h : ORow K w v zs L) (hz : zs[k]? = some z) : ∃ bv ng a m c, v = .slice (some ⟨bv, 0, none⟩) zs.length zs.length ∧ bv < w.heap.size ∧ w.cell? ⟨bv, k * 2, none⟩ = some (.bool ng) ∧ w.cell? ⟨bv, k * 2 + 1, none⟩ = some (.slice a m c) ∧ FrW K z L (.agg #[.bool ng, .slice a m c]) w := by
  obtain ⟨bv, e, hK, ⟨es, B, T, h1, h2, h3, h4, h5⟩, hl⟩ := h
  have hk := (List.getElem?_eq_some_iff.1 hz).1
  obtain ⟨x, hx⟩ : ∃ x, es[k]? = some x := ⟨_, List.getElem?_eq_getElem (by omega)⟩
  obtain ⟨f1, f2⟩ := flat_at hx
  obtain ⟨g1, g2, g3, g4, g5⟩ := h4 k x z hk hx hz
  exact ⟨bv, x.ng, x.a, x.m, x.c, e, lt_of_heap h2, by rw [cell_of_row _ _ _ _ _ (0, 0) h2, List.getElem?_toArray]; exact f1, by rw [cell_of_row _ _ _ _ _ (0, 0) h2, List.getElem?_toArray]; exact f2, ⟨_, _, _, _, B k, T k, by rw [g2], g1, g4, g5, g3⟩⟩
theorem OwM.cellO {K : Nat} {w : World} {ao : Option Addr} {n cap : Nat} {rows : List (List Int)} {L i : Nat} {z : List Int} (h : OwM K w (.slice ao n cap) rows L) (hz : rows[i]? = some z) : ∃ b off u, ao = some ⟨b, off, none⟩ ∧ b < w.heap.size ∧ w.cell? ⟨b, off + i, none⟩ = some u ∧ ORow K w u z L := by
  obtain ⟨vs, h1, h5⟩ := h
  obtain ⟨ao', cap', hv, _, h2, h3, h4⟩ := Ce.own h1
  obtain ⟨rfl, rfl, rfl⟩ := (Value.slice.injEq .. ▸ hv)
  have hi : i < rows.length := (List.getElem?_eq_some_iff.1 hz).1
  obtain ⟨u, hu⟩ : ∃ u, vs[i]? = some u := ⟨_, List.getElem?_eq_getElem (by omega)⟩
  rcases h4 with h4 | ⟨b, off, rfl, hl, hc⟩
  · omega
  · exact ⟨b, off, u, rfl, hl, hc i u hu, h5 i u z hu hz⟩
def solP (n : Nat) (R : List Md.Rw) (Q : List Nat) (i : Nat) : List Int := gRow (fun k => if k ∈ Q.reverse.take i then D R (sub k n Q) else 0) n
def solN (n : Nat) (R : List Md.Rw) (Q : List Nat) (c : Nat) : Int := if c ∈ Q then D R (sub c n Q) else 0
theorem solP_start {n : Nat} {R : List Md.Rw} {Q : List Nat} : List.replicate n 0 = solP n R Q 0 := by
  unfold solP gRow
  simp
  exact (List.eq_replicate_iff.2 ⟨by simp, fun b hb => by obtain ⟨_, _, rfl⟩ := List.mem_map.1 hb; rfl⟩).symm
theorem solP_next {n : Nat} {R : List Md.Rw} {Q : List Nat} {i p : Nat} (hp : Q.reverse[i]? = some p) (hpn : p < n) : (solP n R Q i).set p (D R (sub p n Q)) = solP n R Q (i + 1) := by
  apply List.ext_getElem?
  intro k
  unfold solP
  by_cases hk : k < n
  · by_cases e : k = p
    · subst e
      rw [List.getElem?_set_self (by rw [gRow_len]; exact hk), gRow_at hk, if_pos ((take_succ_mem hp).2 (.inr rfl))]
    · rw [List.getElem?_set_ne (fun h => e h.symm), gRow_at hk, gRow_at hk]
      congr 1
      by_cases e3 : k ∈ Q.reverse.take i
      · rw [if_pos e3, if_pos ((take_succ_mem hp).2 (.inl e3))]
      · rw [if_neg e3, if_neg (fun h => ((take_succ_mem hp).1 h).elim e3 e)]
  · rw [List.getElem?_eq_none (by simp [gRow_len]; omega), List.getElem?_eq_none (by rw [gRow_len]; omega)]
theorem solP_done {n : Nat} {R : List Md.Rw} {Q : List Nat} : solP n R Q Q.length = gRow (solN n R Q) n := by
  unfold solP
  rw [List.take_of_length_le (by simp)]
  simp only [List.mem_reverse]
  rfl
def solG (n : Nat) (R : List Md.Rw) (Q : List Nat) (c : Nat) : Rat := Rat.divInt (solN n R Q c) (D R Q)
def SolOut (w' : World) (n L0 : Nat) (rows : List (List Int)) (ys : List Int) (e : Ending) : Prop := ∃ R Q torn, GatI (n + 1) n (besR rows ys) rows.length R Q torn ∧ ((torn = true ∧ e = .returned (.tuple #[.slice none 0 0, .bool false, .int .i64 0])) ∨ (torn = false ∧ (((qRow (solG n R Q) n).any bigQ = true ∧ e = .returned (.tuple #[.slice none 0 0, .bool false, .int .i64 2])) ∨ ((qRow (solG n R Q) n).any bigQ = false ∧ ∃ bv, e = .returned (.tuple #[.slice (some ⟨bv, 0, none⟩) n n, .bool true, .int .i64 0]) ∧ QRow w' bv n n (qRow (solG n R Q) n) (lg L0)))))
theorem besR_len (rows : List (List Int)) (ys : List Int) : (besR rows ys).length = rows.length := mapI_len _ _
theorem besR_at {rows : List (List Int)} {ys : List Int} {i : Nat} {z : List Int} (h : rows[i]? = some z) : (besR rows ys)[i]? = some (z ++ [ys.getD i 0]) := mapI_at h
theorem besR_row {rows : List (List Int)} {ys : List Int} {n : Nat} (h : ∀ r ∈ rows, r.length = n) : ∀ r ∈ besR rows ys, r.length = n + 1 := by
  intro r hr
  obtain ⟨i, hi⟩ := List.mem_iff_getElem?.1 hr
  have hil : i < rows.length := by have := (List.getElem?_eq_some_iff.1 hi).1; rwa [besR_len] at this
  obtain ⟨z, hz⟩ : ∃ z, rows[i]? = some z := ⟨_, List.getElem?_eq_getElem hil⟩
  rw [besR_at hz] at hi
  obtain rfl := Option.some.inj hi
  rw [List.length_append, h z (List.mem_of_getElem? hz)]
  rfl
theorem has_solve1 : Has Tryz.prog 43 := by unfold Has; kernel_rfl
set_option maxRecDepth 20000 in
set_option maxHeartbeats 16000000 in
theorem msolve_any (w : World) (v vr : Value) (rows : List (List Int)) (ys : List Int) (n L0 : Nat) (h : IsM w v rows L0) (hs : Shaped rows (n : Int)) (hy : IsRow w vr ys L0) (hyl : ys.length = rows.length) (hL0 : L0 ≤ 1500) :
    Calls Tryz.prog 18 #[v, .int .i64 (n : Int), vr] w fun e w' => SolOut w' n L0 rows ys e ∧ Below w.heap.size w w' := by
  have K0 := mshaped_any w v rows L0 h (n : Int)
  rw [decide_eq_true hs] at K0
  have K0 := hide K0
  have hrn : ∀ r ∈ rows, r.length = n := fun r hr => by have := hs.2.2.2 r hr; omega
  have hn32 : n ≤ 32 := by have := hs.2.1; omega
  have hm64 : rows.length ≤ 64 := hs.2.2.1
  have K1 : Hid (∀ w1, Below w.heap.size w w1 → _) := (fun w1 hb => beside_any w1 v vr rows ys L0 (h.below hb) (hy.below hb) hyl (fun r hr => by rw [hrn r hr]; omega) (by omega))
  have HRN := hide hrn
  obtain ⟨ao, cp, rfl, _⟩ := h.parts
  obtain ⟨ay, cy, rfl, _⟩ := hy.parts
  obtain ⟨m, hm⟩ : ∃ m, rows.length = m := ⟨_, rfl⟩
  rw [hm] at hyl hm64
  rw [hyl] at K1 ⊢
  rw [hm] at K0 K1 ⊢
  have HM := hide hm
  obtain ⟨iW, hi, hz0, hz1, hz2⟩ := info_parts infoWz
  have hmf : ∀ (fn : Fn) (first cap : Array Value) (w : World), (Instr.makeFunc fn first cap).run Tryz.prog w = .ok (.func fn first cap) w := fun _ _ _ _ => rfl
  clear h hs hrn hy hyl hm
  go_enter Tryz.func18, Tryz.ntmps18
  go_wp2_with fail
  refine K0.out.mono ?_
  rintro e w1 ⟨rfl, hb1⟩
  have K2 := hide (K1.out w1 hb1)
  have HB1 := hide hb1
  clear hb1 K0 K1
  go_wp2_with fail
  refine K2.out.mono ?_
  rintro e w2 ⟨r2, rfl, hM2, hb2⟩
  have K3 := hide (mgather_any w2 r2 (besR rows ys) (n + 1) n L0 hM2 (besR_row HRN.out) (by omega) hn32 (by omega) (by omega))
  have HB2 := hide (HB1.out.trans (hb2.mono HB1.out.size))
  obtain ⟨ra2, rc2, rfl, _⟩ := hM2.parts
  clear hM2 hb2 K2
  go_wp2_with fail
  refine K3.out.mono ?_
  rintro e w3 ⟨R, Q, torn, rv, pv, ng, la, lm, lc, rfl, hE, hM, hP, hF, hb3⟩
  rw [besR_len] at hE
  obtain ⟨ra, rc, rfl, _⟩ := hM.is.parts
  obtain ⟨pa, pc, rfl, _⟩ := hP.is.parts
  rw [baR_len] at hM ⊢
  rw [List.length_reverse] at hP ⊢
  have hQn : ∀ p ∈ Q, p < n := hE.gat.lt
  have hQl : Q.length ≤ n := desc_le hE.gat.desc hE.gat.lt
  have hba := hAl w3 (.cells #[.slice ra Q.length rc, .slice pa Q.length pc, .bool ng, .slice la lm lc] 54)
  have hn3 := heap_alloc_new w3 (.cells #[.slice ra Q.length rc, .slice pa Q.length pc, .bool ng, .slice la lm lc] 54)
  have hb03 := HB2.out.trans (hb3.mono HB2.out.size)
  have HB3 := hide (hb03.trans (hba.mono hb03.size))
  have HE := hide hE
  cases torn with
  | true =>
    clear hM hP hF hb3 hba hn3 hb03 K3 hE
    go_wp2
    refine bodyPost_ret (v := _) (by simp [results, Tryz.results18, go_sem]; try rfl) rfl ⟨⟨R, Q, true, HE.out, .inl ⟨rfl, rfl⟩⟩, HB3.out⟩
  | false =>
    have HM4 := hide (hM.below hba)
    have HP4 := hide (hP.is.below hba)
    have HF4 := hide ((hF.ru (Ru.of_below hba)).low (Nat.zero_le _))
    have HQ := hide hn3
    have hql := lt_of_heap hn3
    clear hM hP hF hb3 hba hn3 hb03 K3 hE
    go_wp2_with (refine wpList_make_full _ rfl (.tmp 35) (.tmp 35) 34 rfl (w3.heap.size + 1) 38 iW (.agg #[.bool false, .slice none 0 0]) 2 Tryz.underlying34 hi hz0 hz1 .i64 .i64 _ _ n rfl rfl (by omega) (by omega) (by rw [hz2]; omega) (by unfold maxLen; omega) (by simp) ?hK)
    case hK =>
      intro w5 hown hgrow
      generalize hw4 : w3.alloc (.cells #[.slice ra Q.length rc, .slice pa Q.length pc, .bool ng, .slice la lm lc] 54) = w4 at *
      have hs4 : w4.heap.size = w3.heap.size + 1 := by rw [← hw4]; simp
      have hb5 : Below w4.heap.size w4 w5 := (Below.refl _ _).grown hgrow (Nat.le_refl _) (by simp)
      obtain ⟨_, hmb⟩ := made_block hown
      rw [made_two] at hmb
      have hZ0 := ZE.start (L := lg L0) hmb
      rw [solP_start (R := R) (Q := Q)] at hZ0
      obtain ⟨q, hq⟩ : ∃ q, w3.heap.size = q := ⟨_, rfl⟩
      rw [hq] at hs4 HQ hql hZ0 ⊢
      have hq5 := (hb5.block _ hql).trans HQ.out
      have q1 := cell_of_row _ _ 1 _ _ (0, 0) hq5
      simp at q1
      have hq5l := Nat.lt_of_lt_of_le hql hb5.size
      have HZ0 := hide hZ0
      have HB5 := hide hb5
      have HS4 := hide hs4
      clear hown hgrow hmb hZ0 hb5 hq hw4 hq5 hs4
      go_wp2
      go_loopw [12, 13, 40] (fun _ _ iv wr => ∃ (k : Nat), iv = .int .i64 (k : Int) ∧ k ≤ Q.length ∧ Below w4.heap.size w4 wr ∧ ZE wr (q + 1) (solP n R Q k) (lg L0)) (fun _ _ iv _ => Q.length - (intOf iv).toNat)
      case atStart => exact ⟨0, rfl, Nat.zero_le _, HB5.out, HZ0.out⟩
      case round =>
        obtain ⟨k, rfl, hk, hbk, hZ⟩ := hrel
        have HBK := hide hbk
        have HZ := hide hZ
        clear q1 hq5l
        by_cases hkl : k < Q.length
        · have hkl' : (k : Int) < (Q.length : Int) := by omega
          have HKL := hide hkl
          obtain ⟨p, hp⟩ : ∃ p, Q.reverse[k]? = some p := ⟨_, List.getElem?_eq_getElem (by simp; omega)⟩
          have hpn : p < n := hQn p (List.mem_reverse.1 (List.mem_of_getElem? hp))
          have hpn' : (p : Int) < (n : Int) := by omega
          obtain ⟨pb, po, rfl, hpl, y0⟩ := HP4.out.cell hp
          replace y0 := (hbk.cell (p := ⟨pb, po + k, none⟩) hpl).trans y0
          have hrow : (baR R Q (n + 1))[k]? = some (gRow (fun k => D R (sub p k Q)) (n + 1)) := by
            unfold baR
            rw [List.getElem?_map, hp]; rfl
          obtain ⟨rb, ro, u, rfl, hrl, z0, hu⟩ := HM4.out.cellO hrow
          replace z0 := (hbk.cell (p := ⟨rb, ro + k, none⟩) hrl).trans z0
          obtain ⟨bx, ngx, axx, mxx, cxx, rfl, hxl, x0, x1, hx⟩ := hu.cellF (gRow_at (g := fun k => D R (sub p k Q)) (Nat.lt_succ_self n))
          rw [gRow_len] at z0
          replace x0 := (hbk.cell (p := ⟨bx, n * 2, none⟩) hxl).trans x0
          replace x1 := (hbk.cell (p := ⟨bx, n * 2 + 1, none⟩) hxl).trans x1
          have q0 := cell_of_row _ _ 0 _ _ (0, 0) ((hbk.block _ hql).trans HQ.out)
          simp at q0
          have hqk := Nat.lt_of_lt_of_le hql hbk.size
          have hal : (solP n R Q k).length = n := gRow_len _ _
          obtain ⟨⟨ngp, ap, mp, cp', p0, p1⟩, pf0, pf1⟩ := hZ.cells (k := p) (by omega)
          have hput := hZ.put (k := p) (by omega) (hx.ru (Ru.of_below hbk))
          rw [solP_next hp hpn] at hput
          have HS := hide (And.intro hput.1 (hbk.trans (hput.2.below hbk.size (by have := HS4.out; omega))))
          have hzl := hZ.lt
          clear hbk hZ hp hrow hu hx hput hal
          go_wp2
          go_roundw
          case rel => exact ⟨k + 1, by go_num, HKL.out, HS.out.2, HS.out.1⟩
          case measure => have := HKL.out; simp [intOf]; omega
        · have hkl' : decide ((k : Int) < (Q.length : Int)) = false := by simp; omega
          have hke : k = Q.length := by omega
          subst hke
          rw [solP_done] at hZ
          have hlz : (gRow (solN n R Q) n).length = n := gRow_len _ _
          have hIs := hZ.is (by rw [hlz]; omega)
          have hT : TurnQ wr 43 #[.pointer (some ⟨q, 0, none⟩)] (gRow (solN n R Q) n) (lg L0) (lg L0) (solG n R Q) := by
            refine (show ∀ (W : World) (c' : Nat) (z : Int) (xv : Value), _ → _ → _ → _ from ?_)
            intro W c z xv hb hz hx
            have hcn := (List.getElem?_eq_some_iff.1 hz).1
            rw [hlz] at hcn
            rw [gRow_at hcn] at hz
            obtain rfl := Option.some.inj hz
            have hbW := hbk.trans (hb.mono hbk.size)
            exact solve1_any W c q xv _ _ (solN n R Q c) (D R Q) (lg L0) ng la lm lc ((hbW.block _ hql).trans HQ.out) (HF4.out.is.ru (Ru.of_below hbW)) hx (by unfold lg; omega) HE.out.gat.ne
          have KT := turnedQ_any wr _ (gRow (solN n R Q) n) (lg L0) (lg L0) hIs (by rw [hlz]; omega) _ has_solve1 _ _ hT
          rw [hlz] at KT
          have KT := hide KT
          clear hbk hZ hIs hT hlz
          go_wp2_with fail
          refine KT.out.mono ?_
          rintro e w6 ⟨rfl, hQR, hb6⟩
          have hqrl : (qRow (solG n R Q) n).length = n := qRow_len _ _
          have KL := longq_any w6 wr.heap.size (qRow (solG n R Q) n) (lg L0) (by rw [hqrl]; exact hQR) (by rw [hqrl]; omega) (by unfold lg; omega)
          rw [hqrl] at KL
          have KL := hide KL
          have hb46 := HBK.out.trans (hb6.mono HBK.out.size)
          have HB6 := hide (HB3.out.trans (hb46.mono HB3.out.size))
          have HQR := hide hQR
          clear hQR hb6 KT hqrl hb46
          go_wp2_with fail
          refine KL.out.mono ?_
          rintro e w7 ⟨rfl, hb7⟩
          have HB7 := hide (HB6.out.trans (hb7.mono HB6.out.size))
          have HQ7 := hide (HQR.out.below hb7)
          clear KL hb7 HQR
          cases hbig : (qRow (solG n R Q) n).any bigQ with
          | true =>
            have HBig := hide hbig
            clear hbig
            go_wp2
            refine bodyPost_ret (v := _) (by simp [results, Tryz.results18, go_sem]; try rfl) rfl ⟨⟨R, Q, false, HE.out, .inr ⟨rfl, .inl ⟨HBig.out, rfl⟩⟩⟩, HB7.out⟩
          | false =>
            have HBig := hide hbig
            clear hbig
            go_wp2
            refine bodyPost_ret (v := _) (by simp [results, Tryz.results18, go_sem]; try rfl) rfl ⟨⟨R, Q, false, HE.out, .inr ⟨rfl, .inr ⟨HBig.out, _, rfl, HQ7.out⟩⟩⟩, HB7.out⟩
end Lm
end Go.Proofs.YtnomflballofiaaGreat

namespace Go.Proofs.YtnomflballofiaaGreat
namespace Md
def cut (n : Nat) (x : Rw) : Rw := fun c => if c < n then x c else 0
theorem sp_cut {n : Nat} {R : List Rw} {y : Rw} (h : Sp R y) : Sp (R.map (cut n)) (cut n y) := by
  induction h with
  | zero => exact cast (congrArg (Sp _) (funext fun c => by unfold cut; split <;> rfl)) (Sp.zero (R := R.map (cut n)))
  | add a x y hx _ ih =>
    have := Sp.add (R := R.map (cut n)) a (cut n x) (cut n y) (List.mem_map.2 ⟨x, hx, rfl⟩) ih
    refine cast (congrArg (Sp _) (funext fun c => ?_)) this
    unfold cut
    split <;> simp
theorem rs_cut {n : Nat} {R : List Rw} {y : Rw} (h : RS R y) : RS (R.map (cut n)) (cut n y) := by
  obtain ⟨a, ha, h1⟩ := h
  refine ⟨a, ha, cast (congrArg (Sp _) (funext fun c => ?_)) (sp_cut (n := n) h1)⟩
  unfold cut
  split <;> simp
theorem w_cut {n : Nat} {x y : Rw} : ∀ (cs : List Nat) (g h : List Nat → Int), (∀ c ∈ cs, c < n) → (∀ c, c < n → x c = y c) → (∀ l, (∀ c ∈ l, c < n) → g l = h l) → w x g cs = w y h cs
  | [], _, _, _, _, _ => rfl
  | c :: cs, g, h, hc, hx, hg => by
    rw [w, w, hx c (hc c (by simp)), hg cs (fun d hd => hc d (by simp [hd])), w_cut cs (fun l => g (c :: l)) (fun l => h (c :: l)) (fun d hd => hc d (by simp [hd])) hx (fun l hl => hg _ (fun d hd => by
      rcases List.mem_cons.1 hd with rfl | hd
      · exact hc _ (by simp)
      · exact hl d hd))]
theorem D_cut {n : Nat} : ∀ (R : List Rw) (cs : List Nat), (∀ c ∈ cs, c < n) → D (R.map (cut n)) cs = D R cs
  | [], _, _ => rfl
  | x :: R, cs, hc => by
    show w (cut n x) (D (R.map (cut n))) cs = w x (D R) cs
    exact w_cut cs _ _ hc (fun c h => if_pos h) (fun l hl => D_cut R l hl)
end Md
namespace Lm
open Go Go.RowKit Md
theorem cut_bes {z : List Int} {y : Int} {n : Nat} (h : z.length = n) : cut n (fnR (z ++ [y])) = fnR z := by
  funext c
  unfold cut fnR
  by_cases hc : c < n
  · rw [if_pos hc, List.getD_eq_getElem?_getD, List.getD_eq_getElem?_getD, List.getElem?_append_left (by omega)]
  · rw [if_neg hc, List.getD_eq_getElem?_getD, List.getElem?_eq_none (by omega)]; rfl
theorem besR_mem {rows : List (List Int)} {ys : List Int} {r : List Int} (h : r ∈ besR rows ys) : ∃ z ∈ rows, ∃ y, r = z ++ [y] := by
  obtain ⟨i, hi⟩ := List.mem_iff_getElem?.1 h
  have hil : i < rows.length := by have := (List.getElem?_eq_some_iff.1 hi).1; rwa [besR_len] at this
  obtain ⟨z, hz⟩ : ∃ z, rows[i]? = some z := ⟨_, List.getElem?_eq_getElem hil⟩
  rw [besR_at hz] at hi
  exact ⟨z, List.mem_of_getElem? hz, _, (Option.some.inj hi).symm⟩
theorem mem_besR {rows : List (List Int)} {ys : List Int} {z : List Int} (h : z ∈ rows) : ∃ y, z ++ [y] ∈ besR rows ys := by
  obtain ⟨i, hi⟩ := List.mem_iff_getElem?.1 h
  exact ⟨_, List.mem_of_getElem? (besR_at hi)⟩
section
variable {n m : Nat} {rows : List (List Int)} {ys : List Int} {R R1 R2 : List Md.Rw} {Q Q1 Q2 : List Nat}
theorem GatI.bes_in (h : GatI (n + 1) n (besR rows ys) rows.length R Q false) {r : List Int} (hr : r ∈ besR rows ys) : RS R (fnR r) := h.inr rfl r (by rw [← besR_len rows ys, List.take_length]; exact hr)
theorem GatI.bes_mem {t : Bool} (h : GatI (n + 1) n (besR rows ys) rows.length R Q t) {x : Md.Rw} (hx : x ∈ R) : ∃ r ∈ besR rows ys, x = fnR r := by
  obtain ⟨r, hr, e⟩ := h.sub x hx
  rw [← besR_len rows ys, List.take_length] at hr
  exact ⟨r, hr, e⟩
theorem sol_sum (h : GatI (n + 1) n (besR rows ys) rows.length R Q false) (hrn : ∀ r ∈ rows, r.length = n) {i : Nat} {r : List Int} (hr : rows[i]? = some r) : dotN n (fnR r) (solN n R Q) = D R Q * ys.getD i 0 := by
  have hn := hrn r (List.mem_of_getElem? hr)
  have h1 := in_left (h.bes_in (List.mem_of_getElem? (besR_at (ys := ys) hr))) (n :: Q)
  rw [left_eq R _ (desc_nodup h.gat.desc) n] at h1
  have e1 : fnR (r ++ [ys.getD i 0]) n = ys.getD i 0 := by
    unfold fnR
    rw [List.getD_eq_getElem?_getD, List.getElem?_append_right (by omega), hn]
    simp
  have e2 : ∀ k, k < n → fnR (r ++ [ys.getD i 0]) k = fnR r k := fun k hk => by
    simp only [fnR, List.getD_eq_getElem?_getD]
    rw [List.getElem?_append_left (by omega)]
  have e3 : dotN n (fnR r) (solN n R Q) = sumL (fun p => fnR (r ++ [ys.getD i 0]) p * D R (sub p n Q)) Q := by
    unfold dotN
    rw [← sumL_among (l := List.range n) List.nodup_range (desc_nodup h.gat.desc) (fun q hq => List.mem_range.2 (h.gat.lt q hq))]
    refine sumL_congr fun k hk => ?_
    unfold solN
    split
    · rw [e2 k (List.mem_range.1 hk)]
    · exact Int.mul_zero _
  rw [e1, ← e3] at h1
  have : D R Q * ys.getD i 0 = ys.getD i 0 * D R Q := Int.mul_comm _ _
  omega
theorem bes_rank (h : GatI (n + 1) n (besR rows ys) rows.length R Q false) (h1 : Ech n rows R1 Q1) (h2 : Ech (n + 1) (besR rows ys) R2 Q2) (hrn : ∀ r ∈ rows, r.length = n) : Q1.length = Q.length ∧ Q2.length = Q.length := by
  have l0 := h.len
  have l1 := GatI.len h1
  have l2 := GatI.len h2
  obtain ⟨T1, a1, _⟩ := ind_le (ind_D h2.gat.ne) (T := R) (fun s hs => by
    obtain ⟨r, hr, rfl⟩ := h2.mem hs
    exact h.bes_in hr)
  obtain ⟨T2, a2, _⟩ := ind_le (ind_D h.gat.ne) (T := R2) (fun s hs => by
    obtain ⟨r, hr, rfl⟩ := h.bes_mem hs
    exact h2.rows_in hr)
  obtain ⟨T3, a3, _⟩ := ind_le (ind_D h1.gat.ne) (T := R.map (cut n)) (fun s hs => by
    obtain ⟨r, hr, rfl⟩ := h1.mem hs
    obtain ⟨y, hy⟩ := mem_besR (ys := ys) hr
    rw [← cut_bes (y := y) (hrn r hr)]
    exact rs_cut (h.bes_in hy))
  obtain ⟨T4, a4, _⟩ := ind_le (S := R.map (cut n)) (T := R1) (ind_D (cs := Q) (by rw [D_cut R Q h.gat.lt]; exact h.gat.ne)) (fun s hs => by
    obtain ⟨x, hx, rfl⟩ := List.mem_map.1 hs
    obtain ⟨r, hr, rfl⟩ := h.bes_mem hx
    obtain ⟨z, hz, y, rfl⟩ := besR_mem hr
    rw [cut_bes (hrn z hz)]
    exact h1.rows_in hz)
  rw [List.length_map] at a3 a4
  omega
theorem lift_rows (h2 : Ech (n + 1) (besR rows ys) R2 Q2) (hrn : ∀ r ∈ rows, r.length = n) : ∀ R1 : List Md.Rw, (∀ x ∈ R1, ∃ r ∈ rows, x = fnR r) → ∃ S : List Md.Rw, S.map (cut n) = R1 ∧ ∀ s ∈ S, RS R2 s
  | [], _ => ⟨[], rfl, fun s hs => by cases hs⟩
  | x :: R1, hx => by
    obtain ⟨S, e, hS⟩ := lift_rows h2 hrn R1 (fun y hy => hx y (by simp [hy]))
    obtain ⟨r, hr, rfl⟩ := hx x (by simp)
    obtain ⟨y, hy⟩ := mem_besR (ys := ys) hr
    refine ⟨fnR (r ++ [y]) :: S, by rw [List.map_cons, cut_bes (hrn r hr), e], fun s hs => ?_⟩
    rcases List.mem_cons.1 hs with rfl | hs
    · exact h2.rows_in hy
    · exact hS s hs
theorem torn_rank (h : GatI (n + 1) n (besR rows ys) rows.length R Q true) (h1 : Ech n rows R1 Q1) (h2 : Ech (n + 1) (besR rows ys) R2 Q2) (hrn : ∀ r ∈ rows, r.length = n) : Q1.length < Q2.length := by
  obtain ⟨y0, hz, ⟨c, hc, hne⟩, hy⟩ := h.tor rfl
  have hcn : c = n := by
    apply Classical.byContradiction
    intro hno
    exact hne (hz c (by omega))
  subst hcn
  obtain ⟨S, e, hS⟩ := lift_rows h2 hrn R1 (fun x hx => h1.mem hx)
  have hD : D S Q1 ≠ 0 := by
    rw [← D_cut S Q1 h1.gat.lt, e]
    exact h1.gat.ne
  have hI : Ind (y0 :: S) := by
    refine ⟨fun hr => ?_, ind_D hD⟩
    have h0 := in_left hr (c :: Q1)
    rw [left_eq S y0 (desc_nodup h1.gat.desc) c, sumL_zero (fun p hp => by rw [hz p (h1.gat.lt p hp), Int.zero_mul])] at h0
    have : D S Q1 * y0 c = 0 := by omega
    rcases Int.mul_eq_zero.1 this with h | h
    · exact hD h
    · exact hne h
  obtain ⟨T, a, _⟩ := ind_le hI (T := R2) (fun s hs => by
    rcases List.mem_cons.1 hs with rfl | hs
    · refine hy.trans fun x hx => ?_
      obtain ⟨r, hr, rfl⟩ := List.mem_map.1 hx
      exact h2.rows_in hr
    · exact hS s hs)
  have l1 := GatI.len h1
  have l2 := GatI.len h2
  have l3 : S.length = R1.length := by rw [← e, List.length_map]
  rw [List.length_cons] at a
  omega
end
def cntQ (Q : List Nat) (k : Nat) : Nat := ((List.range k).filter (fun c => decide (c ∈ Q))).length
theorem cntQ_in {Q : List Nat} {k : Nat} (h : k ∈ Q) : cntQ Q (k + 1) = cntQ Q k + 1 := by
  unfold cntQ
  rw [List.range_succ, List.filter_append]
  simp [h]
theorem cntQ_out {Q : List Nat} {k : Nat} (h : k ∉ Q) : cntQ Q (k + 1) = cntQ Q k := by
  unfold cntQ
  rw [List.range_succ, List.filter_append]
  simp [h]
theorem cntQ_free (Q : List Nat) : ∀ k, cntQ Q k + (free k Q).length = k
  | 0 => rfl
  | k + 1 => by
    have := cntQ_free Q k
    by_cases h : k ∈ Q
    · rw [cntQ_in h]
      have : (free (k + 1) Q).length = (free k Q).length := by unfold free; rw [List.range_succ, List.filter_append]; simp [h]
      omega
    · rw [cntQ_out h]
      have : (free (k + 1) Q).length = (free k Q).length + 1 := by unfold free; rw [List.range_succ, List.filter_append]; simp [h]
      omega
theorem cntQ_all {n : Nat} {Q : List Nat} (hn : Q.Nodup) (hQ : ∀ q ∈ Q, q < n) : cntQ Q n = Q.length := by
  have := cntQ_free Q n
  have := free_len hn hQ
  omega
def sumQ (n : Nat) (R : List Md.Rw) (Q : List Nat) (r : List Int) (k : Nat) : Rat := Rat.divInt (dotN k (fnR r) (solN n R Q)) (D R Q)
theorem sumQ_zero (n : Nat) (R : List Md.Rw) (Q : List Nat) (r : List Int) : sumQ n R Q r 0 = 0 := by
  unfold sumQ dotN
  simp [sumL]
theorem sumQ_next {n : Nat} {R : List Md.Rw} {Q : List Nat} (r : List Int) (hd : D R Q ≠ 0) (k : Nat) : sumQ n R Q r (k + 1) = sumQ n R Q r k + ((fnR r k : Int) : Rat) * solG n R Q k := by
  unfold sumQ solG
  rw [divInt_sum hd, dotN_succ]
theorem sumQ_fit {n : Nat} {R : List Md.Rw} {Q : List Nat} {r : List Int} (hd : D R Q ≠ 0) (hr : ∀ c, ((fnR r c).natAbs : Int) < pw 1500) (hs : ∀ c, c < n → Fit (solG n R Q c) 32) : ∀ k, k ≤ n → Fit2 (sumQ n R Q r k) (1501 + 33 * k) (32 * k + 1)
  | 0, _ => by
    rw [sumQ_zero]
    refine ⟨?_, ?_⟩
    · have := pw_pos 1501; simp; omega
    · simp [pw]
  | k + 1, hk => by
    rw [sumQ_next r hd]
    have h1 := sumQ_fit hd hr hs k (by omega)
    have h2 := fit2_mul (hr k) (show Fit2 (solG n R Q k) 32 32 from hs k (by omega))
    have h3 := fit2_add h1 h2 (by omega)
    exact h3.mono (by omega) (by omega)
end Lm
end Go.Proofs.YtnomflballofiaaGreat

namespace Go.Proofs.YtnomflballofiaaGreat
namespace Lm
open Go Go.RowKit Md
def OwnW (B n : Nat) (es : List WE) : Says := fun v w => w.ownsRow B 38 2 v n (flat es)
theorem OwnW.mono (B n : Nat) (es : List WE) : Mono (OwnW B n es) := fun v w w' hb h => by
  obtain ⟨h1, h2 | ⟨g, cap, cur, rfl, hg, hh, h3⟩⟩ := h
  · exact ⟨h1, .inl h2⟩
  · exact ⟨h1, .inr ⟨g, cap, cur, rfl, hg, (hb.block g (lt_of_heap hh)).trans hh, h3⟩⟩
def One2 (ng : Bool) (a : Option Addr) (m c : Nat) : Says := fun v w => ∃ g, v = .slice (some ⟨g, 0, none⟩) 1 1 ∧ One w g ng a m c
theorem One2.mono (ng : Bool) (a : Option Addr) (m c : Nat) : Mono (One2 ng a m c) := fun _ _ _ hb ⟨g, h1, h2⟩ => ⟨g, h1, (hb.block g (lt_of_heap h2)).trans h2⟩
def OneR (B n : Nat) (es : List WE) : Says := fun v w => ∃ g u, v = .slice (some ⟨g, 0, none⟩) 1 1 ∧ w.heap[g]? = some (.cells #[u] 34 (0, 0)) ∧ OwnW B n es u w
theorem OneR.mono (B n : Nat) (es : List WE) : Mono (OneR B n es) := fun _ w w' hb ⟨g, u, h1, h2, h3⟩ => ⟨g, u, h1, (hb.block g (lt_of_heap h2)).trans h2, OwnW.mono B n es u w w' hb h3⟩
theorem OutQr.mono (r : Rat) (L : Nat) : Mono (OutQr r L) := fun _ _ _ hb h => OutQr.ru h (Ru.of_below hb)
section
variable {dst : Option Tmp} {ty : TypeId} {pos : String} {after : Array Edge} {guard : Option (Nat × Bool)} {a : Act} {w : World} {ats : Array TypeId} {i j k : Nat}
theorem op_app0 {B m c0 : Nat} {a0 : Option Addr} {es : List WE} (h : a.eval (.tmp i) = .slice a0 m c0) (hC : Rw w (.slice a0 m c0) es) (hm : m ≤ 1000000) (hB : B ≤ w.heap.size) :
    Does Tryz.prog { dst, op := .call { callee := .builtin .append, args := #[.const (.slice none 0 0), .tmp i], argTypes := #[34, 34] }, type := ty, pos, after, guard } a.eval w fun v w' => Below w.heap.size w w' ∧ OwnW B m es v w' := by
  obtain ⟨iW, hi, hz0, hz1, hz2⟩ := info_parts infoWz
  obtain ⟨ao', cap', hv, h1, h2, h3, h4⟩ := hC.cl
  obtain ⟨rfl, hme, rfl⟩ := (Value.slice.injEq .. ▸ hv)
  have h0 : a.eval (.const (.slice none 0 0)) = .slice none 0 0 := rfl
  have key : ∃ v' w', (Builtin.append_ #[34, 34] ty #[.slice none 0 0, .slice a0 m c0]).run Tryz.prog w = .ok v' w' ∧ w'.ownsRow B 38 2 v' m (flat es) ∧ Below w.heap.size w w' := by
    cases a0 with
    | none =>
      have hm0 : es.length = 0 := by
        rcases h4 with h4 | ⟨b, off, e, _⟩
        · exact h4
        · cases e
      obtain rfl : es = [] := List.length_eq_zero_iff.1 hm0
      obtain rfl : m = 0 := hme
      exact ⟨.slice none 0 0, w, by simp [Builtin.append_, run_underlying Tryz.underlying34, sizeOf, typeInfo, hi, Builtin.lenOf, Builtin.firstCells], World.ownsRow_nil _ _ _ _, Below.refl _ _⟩
    | some ad =>
      obtain ⟨v', w', hr, ho, hgr, _⟩ := run_append_own (P := Tryz.prog) w B 34 ty 38 iW _ 2 32 Tryz.underlying34 hi hz0 hz1 hz2 rfl (by decide) (.slice none 0 0) 0 [] (World.ownsRow_nil _ _ _ _) ad m c0 (flat es) (by rw [flat_length]; omega) (fun j u hu => by
        rcases h4 with h4 | ⟨b, off, e, _, hc⟩
        · rw [List.getElem?_eq_none (by rw [flat_length]; omega)] at hu; cases hu
        · obtain rfl := Option.some.inj e
          rw [Addr.add_lit]
          exact hc j u hu) (flat_one es) (by simp [maxLen]; omega) (by omega) hB
      exact ⟨v', w', hr, by simpa using ho, (Below.refl _ _).grown hgr (Nat.le_refl _) (fun k hk => by cases hk)⟩
  obtain ⟨v', w', hr, ho, hb⟩ := key
  have e : (execOp a.eval { dst, op := .call { callee := .builtin .append, args := #[.const (.slice none 0 0), .tmp i], argTypes := #[34, 34] }, type := ty, pos, after, guard }).run Tryz.prog w = .ok (.value v') w' := by
    simp only [execOp, resolve, invoke, builtin, Sem.run_bind, Sem.run_pure, Result.andThen_ok, List.map_toArray, List.map_cons, List.map_nil, h, h0, hr]
  refine ⟨?_⟩
  unfold Turns
  rw [e]
  exact ⟨hb, ho⟩
theorem op_app1 {B n : Nat} {es : List WE} {ng : Bool} {ao : Option Addr} {m c : Nat} {zs : List Int} (h1 : OwnW B n es (a.eval (.tmp i)) w) (h2 : One2 ng ao m c (a.eval (.tmp j)) w) (hn : n ≤ 1000000) (hB : B ≤ w.heap.size) :
    Does Tryz.prog { dst, op := .call { callee := .builtin .append, args := #[.tmp i, .tmp j], argTypes := #[34, 34] }, type := ty, pos, after, guard } a.eval w fun v w' => Below B w w' ∧ OwnW B (n + 1) (es ++ [⟨ng, ao, m, c, zs⟩]) v w' := by
  obtain ⟨iW, hi, hz0, hz1, hz2⟩ := info_parts infoWz
  obtain ⟨g, e2, O⟩ := h2
  generalize ev : a.eval (.tmp i) = v at h1
  have hfl : flat (es ++ [⟨ng, ao, m, c, zs⟩]) = flat es ++ [.bool ng, .slice ao m c] := by rw [flat_append]; rfl
  have hnew : ∀ k u, [Value.bool ng, .slice ao m c][k]? = some u → w.cell? ((⟨g, 0, none⟩ : Addr).add k) = some u := fun k u hu => by
    have hc : ∀ k, w.cell? ⟨g, k, none⟩ = #[Value.bool ng, .slice ao m c][k]? := fun k => cell_of_row w g k _ _ (0, 0) O
    have ha : (⟨g, 0, none⟩ : Addr).add k = ⟨g, k, none⟩ := by unfold Addr.add; split <;> simp_all
    rw [ha, hc]
    simpa using hu
  obtain ⟨v', w', hr, ho, hgr, _⟩ := run_append_own (P := Tryz.prog) w B 34 ty 38 iW _ 2 32 Tryz.underlying34 hi hz0 hz1 hz2 rfl (by decide) v n (flat es) h1 ⟨g, 0, none⟩ 1 1 [.bool ng, .slice ao m c] rfl hnew (by simp [Value.oneCell']) (by simp [maxLen]; omega) (by omega) hB
  have e : (execOp a.eval { dst, op := .call { callee := .builtin .append, args := #[.tmp i, .tmp j], argTypes := #[34, 34] }, type := ty, pos, after, guard }).run Tryz.prog w = .ok (.value v') w' := by
    simp only [execOp, resolve, invoke, builtin, Sem.run_bind, Sem.run_pure, Result.andThen_ok, List.map_toArray, List.map_cons, List.map_nil, ev, e2, hr]
  refine ⟨?_⟩
  unfold Turns
  rw [e]
  refine ⟨(Below.refl _ _).grown hgr hB (fun k hk => (World.ownsRow.lt h1 k hk).1), ?_⟩
  unfold OwnW
  rw [hfl]
  exact ho
theorem op_bsl2 {ng : Bool} {ao : Option Addr} {n c : Nat} (h : a.eval (.tmp i) = .agg #[.bool ng, .slice ao n c]) :
    Does Tryz.prog { dst, op := .buildSlice 34 1 #[(0, .tmp i)], type := ty, pos, after, guard } a.eval w fun v w' => Below w.heap.size w w' ∧ One2 ng ao n c v w' := (op_bsl h).mono fun _ _ ⟨h1, h2, h3⟩ => ⟨h3, _, h1, h2⟩
theorem op_bslO {B n : Nat} {es : List WE} (h : OwnW B n es (a.eval (.tmp i)) w) :
    Does Tryz.prog { dst, op := .buildSlice 22 1 #[(0, .tmp i)], type := ty, pos, after, guard } a.eval w fun v w' => Below w.heap.size w w' ∧ OneR B n es v w' := by
  have hb := hAl w (.cells #[a.eval (.tmp i)] 34)
  have hsl : ∃ sa sn sc, a.eval (.tmp i) = .slice sa sn sc := by
    obtain ⟨_, ⟨e, _⟩ | ⟨g, cap, cur, e, _⟩⟩ := h
    · exact ⟨_, _, _, e⟩
    · exact ⟨_, _, _, e⟩
  obtain ⟨sa, sn, sc, e⟩ := hsl
  rw [e] at h hb
  refine does_buildSlice (v := .slice (some ⟨w.heap.size, 0, none⟩) 1 1) (w' := w.alloc (.cells #[.slice sa sn sc] 34)) ?_ ⟨hb, _, _, rfl, heap_alloc_new _ _, OwnW.mono B n es _ _ _ hb h⟩
  simp only [List.map_toArray, List.map_cons, List.map_nil, e]
  go_simp
theorem op_ldQ {g : Nat} {x : FE} {p : Says} (hp : a.eval (.tmp k) = .pointer (some ⟨g, 0, none⟩)) (h0 : w.cell? ⟨g, 0, none⟩ = some (.bool x.ng)) (h1 : w.cell? ⟨g, 1, none⟩ = some (.slice x.a x.m x.c)) (h2 : w.cell? ⟨g, 2, none⟩ = some (.slice x.d x.k x.e)) (hv : p x.v w) :
    Does Tryz.prog { dst, op := .load 46 (.tmp k), type := ty, pos, after, guard } a.eval w fun v' w' => Below w.heap.size w w' ∧ p v' w' := by
  refine does_load (v := x.v) ?_ ⟨Below.refl _ _, hv⟩
  rw [hp]
  unfold FE.v
  go_simp
theorem op_ldQr {g o : Nat} {x : FE} {p : Says} (hp : a.eval (.tmp k) = .pointer (some ⟨g, o, none⟩)) (h0 : w.cell? ⟨g, o, none⟩ = some (.bool x.ng)) (h1 : w.cell? ⟨g, o + 1, none⟩ = some (.slice x.a x.m x.c)) (h2 : w.cell? ⟨g, o + 2, none⟩ = some (.slice x.d x.k x.e)) (hv : p x.v w) :
    Does Tryz.prog { dst, op := .load 46 (.tmp k), type := ty, pos, after, guard } a.eval w fun v' w' => Below w.heap.size w w' ∧ p v' w' := by
  refine does_load (v := x.v) ?_ ⟨Below.refl _ _, hv⟩
  rw [hp]
  unfold FE.v
  go_simp
theorem op_idxQ {b n c m : Nat} (h : a.eval (.tmp i) = .slice (some ⟨b, 0, none⟩) n c) (hk : a.eval (.tmp j) = .int .i64 (m : Int)) (hl : m < n) : Does Tryz.prog { dst, op := .indexAddr 42 (.tmp i) (.tmp j), type := ty, pos, after, guard } a.eval w fun v' w' => Below w.heap.size w w' ∧ Eqs (.pointer (some ⟨b, m * 3, none⟩)) v' w' := by
  have hl' : (m : Int) < (n : Int) := by omega
  have e : (execOp a.eval { dst, op := .indexAddr 42 (.tmp i) (.tmp j), type := ty, pos, after, guard }).run Tryz.prog w = .ok (.value (.pointer (some ⟨b, m * 3, none⟩))) w := by
    simp only [execOp, h, hk]
    go_simp
  refine ⟨?_⟩
  unfold Turns
  rw [e]
  exact ⟨Below.refl _ _, rfl⟩
theorem op_fromQ {z : Int} {L : Nat} (h : IsW z L (a.eval (.tmp i)) w) (hL : L ≤ 100000) :
    Does Tryz.prog { dst, op := .call { callee := .value (.func 19), args := #[.tmp i], argTypes := ats }, type := ty, pos, after, guard } a.eval w fun v w' => Below w.heap.size w w' ∧ OutQr (z : Rat) (L + 2) v w' :=
  does_call has_from #[_] (by simp) ((rfrom_q w _ z L h hL).mono fun e w' ⟨v, h, hf, hb⟩ => ⟨v, h, hb, hf⟩)
theorem op_mulQ {r s : Rat} {L M N : Nat} (h1 : OutQr r L (a.eval (.tmp i)) w) (h2 : OutQr s M (a.eval (.tmp j)) w) (hL : 2 * (L + M + 4) + 1 ≤ 100000) (hf : Fit (r * s) N) :
    Does Tryz.prog { dst, op := .call { callee := .value (.func 21), args := #[.tmp i, .tmp j], argTypes := ats }, type := ty, pos, after, guard } a.eval w fun v w' => Below w.heap.size w w' ∧ OutQr (r * s) N v w' :=
  does_call has_rmul #[_, _] (by simp) ((rmul_q w _ _ r s L M N h1.is h2.is hL hf).mono fun e w' ⟨v, h, hf, hb⟩ => ⟨v, h, hb, hf⟩)
theorem has_raddM : Has Tryz.prog 20 := by unfold Has; kernel_rfl
theorem op_addQ {r s : Rat} {L M N : Nat} (h1 : OutQr r L (a.eval (.tmp i)) w) (h2 : OutQr s M (a.eval (.tmp j)) w) (hL : 3 * (L + M + 4) + 1 ≤ 100000) (hf : Fit (r + s) N) :
    Does Tryz.prog { dst, op := .call { callee := .value (.func 20), args := #[.tmp i, .tmp j], argTypes := ats }, type := ty, pos, after, guard } a.eval w fun v w' => Below w.heap.size w w' ∧ OutQr (r + s) N v w' :=
  does_call has_raddM #[_, _] (by simp) ((radd_q w _ _ r s L M N h1.is h2.is hL hf).mono fun e w' ⟨v, h, hf, hb⟩ => ⟨v, h, hb, hf⟩)
theorem op_cmpQ {r : Rat} {L M : Nat} (h1 : OutQr r L (a.eval (.tmp i)) w) (h2 : OutQr r M (a.eval (.tmp j)) w) (hL : 3 * (L + M + 4) + 1 ≤ 100000) :
    Does Tryz.prog { dst, op := .call { callee := .value (.func 22), args := #[.tmp i, .tmp j], argTypes := ats }, type := ty, pos, after, guard } a.eval w fun v w' => Below w.heap.size w w' ∧ Eqs (.int .i64 0) v w' :=
  does_call has_rcmp #[_, _] (by simp) ((rcmp_q w _ _ r L M h1.is h2.is hL).mono fun e w' ⟨h, hb⟩ => ⟨_, h, hb, rfl⟩)
end
theorem owns_low2 {K K' : Nat} {w : World} {v : Value} {E : TypeId} {sz n : Nat} {xs : List Value} (h : w.ownsRow K E sz v n xs) (hk : K' ≤ K) : w.ownsRow K' E sz v n xs := by
  obtain ⟨h1, h2 | ⟨g, cap, cur, e, hg, h3⟩⟩ := h
  · exact ⟨h1, .inl h2⟩
  · exact ⟨h1, .inr ⟨g, cap, cur, e, by omega, h3⟩⟩
theorem rw_len {w : World} {v : Value} {es : List WE} (h : Rw w v es) {e : WE} (he : e ∈ es) : e.zs.length ≤ lenW es := by
  have h1 := lenW_mem he
  obtain ⟨ao, cap, hv, _⟩ := h.sl e he
  obtain ⟨_, hm, _⟩ := (Value.slice.injEq .. ▸ hv)
  omega
def SolA (w' : World) (n L0 : Nat) (R : List Md.Rw) (Q : List Nat) (torn : Bool) (xa : Option Addr) (xl xc : Nat) (ok : Bool) (ec : Int) : Prop := (torn = true ∧ ok = false ∧ ec = 0 ∧ xl = 0) ∨ (torn = false ∧ ok = false ∧ ec = 2 ∧ xl = 0) ∨ (torn = false ∧ ok = true ∧ ec = 0 ∧ (qRow (solG n R Q) n).any bigQ = false ∧ ∃ bv, xa = some ⟨bv, 0, none⟩ ∧ xl = n ∧ xc = n ∧ QRow w' bv n n (qRow (solG n R Q) n) (lg L0))
theorem SolA.below {w w' : World} {n L0 : Nat} {R : List Md.Rw} {Q : List Nat} {torn : Bool} {xa : Option Addr} {xl xc : Nat} {ok : Bool} {ec : Int} (h : SolA w n L0 R Q torn xa xl xc ok ec) (hb : Below w.heap.size w w') : SolA w' n L0 R Q torn xa xl xc ok ec := by
  rcases h with h | h | ⟨h1, h2, h3, h4, bv, h5, h6, h7, h8⟩
  · exact .inl h
  · exact .inr (.inl h)
  · exact .inr (.inr ⟨h1, h2, h3, h4, bv, h5, h6, h7, h8.below hb⟩)
theorem sol_of {w' : World} {n L0 : Nat} {rows : List (List Int)} {ys : List Int} {e : Ending} (h : SolOut w' n L0 rows ys e) : ∃ R Q torn xa xl xc ok ec, e = .returned (.tuple #[.slice xa xl xc, .bool ok, .int .i64 ec]) ∧ GatI (n + 1) n (besR rows ys) rows.length R Q torn ∧ SolA w' n L0 R Q torn xa xl xc ok ec := by
  obtain ⟨R, Q, torn, hG, ⟨h1, h2⟩ | ⟨h1, ⟨h2, h3⟩ | ⟨h2, bv, h3, h4⟩⟩⟩ := h
  · exact ⟨R, Q, torn, none, 0, 0, false, 0, h2, hG, .inl ⟨h1, rfl, rfl, rfl⟩⟩
  · exact ⟨R, Q, torn, none, 0, 0, false, 2, h3, hG, .inr (.inl ⟨h1, rfl, rfl, rfl⟩)⟩
  · exact ⟨R, Q, torn, _, n, n, true, 0, h3, hG, .inr (.inr ⟨h1, rfl, rfl, h2, bv, rfl, rfl, rfl, h4⟩)⟩
def OwB (w0 : World) (K : Nat) (w : World) (v : Value) (rows : List (List Int)) (L : Nat) : Prop := ∃ vs : List Value, w.ownsRow K 34 1 v rows.length vs ∧ ∀ (i : Nat) (u : Value) (z : List Int), vs[i]? = some u → rows[i]? = some z → ∃ es : List WE, es.map WE.z = z ∧ (∀ e ∈ es, Sl w0 (.slice e.a e.m e.c) e.zs ∧ e.zs.length ≤ L) ∧ w.ownsRow K 38 2 u es.length (flat es)
theorem OwB.isM {w0 : World} {K : Nat} {w : World} {v : Value} {rows : List (List Int)} {L : Nat} (h : OwB w0 K w v rows L) (hb : Below w0.heap.size w0 w) : IsM w v rows L := by
  obtain ⟨vs, h1, h2⟩ := h
  refine ⟨vs, Ce.own h1, fun i u z a b => ?_⟩
  obtain ⟨es, e1, e2, e3⟩ := h2 i u z a b
  exact ⟨es, ⟨Cl.own e3, fun e he => (e2 e he).1.below hb⟩, e1, fun e he => (e2 e he).2⟩
theorem ownW_grown {K : Nat} {w w' : World} {v u : Value} {n m : Nat} {xs ys : List Value} (h : w.ownsRow K 38 2 u m ys) (ho : w.ownsRow K 34 1 v n xs) (hg : w.grownBy w' v.ownBlock) : w'.ownsRow K 38 2 u m ys := by
  obtain ⟨h1, h2 | ⟨g, cap, cur, rfl, hk, hh, h3⟩⟩ := h
  · exact ⟨h1, .inl h2⟩
  · refine ⟨h1, .inr ⟨g, cap, cur, rfl, hk, ?_, h3⟩⟩
    rw [hg.block g (lt_of_heap hh) (fun e => ?_)]
    · exact hh
    · obtain ⟨_, ⟨rfl, _⟩ | ⟨g2, cap2, cur2, rfl, _, hh2, _⟩⟩ := ho
      · cases e
      · obtain rfl : g = g2 := Option.some.inj e
        rw [hh] at hh2
        injection hh2 with hh2
        injection hh2 with _ hh2
        exact absurd hh2 (by decide)
theorem OwB.app {w0 : World} {K : Nat} {w w' : World} {v v' u : Value} {rows : List (List Int)} {vs : List Value} {es : List WE} {L : Nat} (hv : w.ownsRow K 34 1 v rows.length vs) (hr : ∀ (i : Nat) (u : Value) (z : List Int), vs[i]? = some u → rows[i]? = some z → ∃ es : List WE, es.map WE.z = z ∧ (∀ e ∈ es, Sl w0 (.slice e.a e.m e.c) e.zs ∧ e.zs.length ≤ L) ∧ w.ownsRow K 38 2 u es.length (flat es)) (hes : ∀ e ∈ es, Sl w0 (.slice e.a e.m e.c) e.zs ∧ e.zs.length ≤ L) (hu : w.ownsRow K 38 2 u es.length (flat es)) (ho : w'.ownsRow K 34 1 v' (rows.length + 1) (vs ++ [u])) (hg : w.grownBy w' v.ownBlock) : OwB w0 K w' v' (rows ++ [es.map WE.z]) L := by
  have hvl : vs.length = rows.length := by simpa using hv.1
  refine ⟨vs ++ [u], by simpa using ho, fun i x y hx hy => ?_⟩
  by_cases hi : i < rows.length
  · rw [List.getElem?_append_left (by omega)] at hx hy
    obtain ⟨fs, e1, e2, e3⟩ := hr i x y hx hy
    exact ⟨fs, e1, e2, ownW_grown e3 hv hg⟩
  · by_cases he : i = rows.length
    · subst he
      rw [List.getElem?_append_right (Nat.le_refl _)] at hy
      rw [List.getElem?_append_right (by omega), hvl] at hx
      simp at hx hy
      subst hx hy
      exact ⟨es, rfl, hes, ownW_grown hu hv hg⟩
    · rw [List.getElem?_eq_none (by simp; omega)] at hy
      cases hy
end Lm
end Go.Proofs.YtnomflballofiaaGreat

namespace Go.Proofs.YtnomflballofiaaGreat
namespace Lm
open Go Go.RowKit
theorem wr64_add (a b : Int) : IntKind.i64.wrap (IntKind.i64.wrap a + b) = IntKind.i64.wrap (a + b) := by
  rw [IntKind.wrap_i64, IntKind.wrap_i64, IntKind.wrap_i64]
  omega
theorem wr64_add2 (a b : Int) : IntKind.i64.wrap (a + IntKind.i64.wrap b) = IntKind.i64.wrap (a + b) := by
  rw [IntKind.wrap_i64, IntKind.wrap_i64, IntKind.wrap_i64]
  omega
theorem wr64_id {a : Int} (h : 0 ≤ a) (h' : a ≤ 9223372036854775807) : IntKind.i64.wrap a = a := by
  rw [IntKind.wrap_i64]
  omega
set_option maxRecDepth 20000 in
set_option maxHeartbeats 4000000 in
theorem lenrow_s (w : World) (ax : Option Addr) (mx cx : Nat) (xs : List WE) (R : Rw w (.slice ax mx cx) xs) (hm : ∀ e ∈ xs, e.m ≤ 35184372088832) :
    Calls Tryz.prog 17 #[.slice ax mx cx] w fun e w' => e = .returned (.int .i64 (IntKind.i64.wrap (lenW xs : Int))) ∧ Below w.heap.size w w' := by
  have HX := hide R
  have HNx : Hid (mx = xs.length) := R.parts.1
  have hml : mx ≤ 9223372036854775807 := by have := R.parts; omega
  have HMM := hide hm
  clear R hm
  go_enter Tryz.func17, Tryz.ntmps17
  go_wp2_with fail
  go_loopw [3, 4] (fun sv iv wr => ∃ (k : Nat) (s : Int), iv = .int .i64 k ∧ k ≤ mx ∧ sv = .int .i64 s ∧ s = IntKind.i64.wrap (lenW (xs.take k) : Int) ∧ Below w.heap.size w wr) (fun _ iv _ => mx - (intOf iv).toNat)
  case atStart => exact ⟨0, 0, rfl, Nat.zero_le _, rfl, rfl, Below.refl _ _⟩
  case round =>
    obtain ⟨k, s, rfl, hk, rfl, hsw, hbw⟩ := hrel
    have HSW := hide hsw
    by_cases hlt : k < mx
    · have hlt' : (k : Int) < (mx : Int) := by omega
      have HLT := hide hlt
      obtain ⟨ex, hex⟩ : ∃ e, xs[k]? = some e := ⟨_, List.getElem?_eq_getElem (by have := HNx.out; omega)⟩
      obtain ⟨bx, ox, hAx, hlx0, hcx⟩ := HX.out.cells (by have := HNx.out; omega)
      subst hAx
      have hlx : bx < wr.heap.size := Nat.lt_of_lt_of_le hlx0 hbw.size
      have x0 := (hbw.cell (p := ⟨bx, ox + k * 2, none⟩) hlx0).trans (hcx _ _ (flat_at hex).1)
      have x1 : wr.cell? ⟨bx, ox + k * 2 + 1, none⟩ = some (.slice ex.a ex.m ex.c) := (hbw.cell (p := ⟨bx, ox + k * 2 + 1, none⟩) hlx0).trans (hcx _ _ (flat_at hex).2)
      have hs := lenW_take hex
      have hem := HMM.out ex (List.mem_of_getElem? hex)
      have HW := hide hbw
      have K1 := hide (wlen_any wr ex.ng ex.a ex.m ex.c (by omega))
      obtain ⟨t, hadd⟩ : ∃ t, IntKind.i64.wrap (s + (1 + (ex.m : Int))) = t := ⟨_, rfl⟩
      have HT : Hid (t = IntKind.i64.wrap (lenW (xs.take (k + 1)) : Int)) := (show t = _ by
        rw [← hadd, HSW.out, wr64_add, hs]
        first | done | rfl | (congr 1; omega) | simp)
      clear hbw hs hsw hex hcx hlx
      go_wp2_with fail
      refine K1.out.mono ?_
      rintro e w2 ⟨rfl, hb2⟩
      have HB2 := hide (HW.out.trans (hb2.mono HW.out.size))
      clear hb2 x0 x1 hlx0
      go_wp2
      go_roundw
      case rel => exact ⟨k + 1, t, by go_num, HLT.out, rfl, HT.out, HB2.out⟩
      case measure => have := HLT.out; simp [intOf]; omega
    · have hlt' : decide ((k : Int) < (mx : Int)) = false := by simp; omega
      have hkn : k = mx := by omega
      subst hkn
      have HW := hide hbw
      clear hbw hsw
      go_wp2
      refine bodyPost_ret (v := _) (res_t rfl rfl) rfl ⟨?_, HW.out⟩
      have := HSW.out
      rw [List.take_of_length_le (by have := HNx.out; omega)] at this
      rw [← this]
      rfl
set_option maxRecDepth 20000 in
set_option maxHeartbeats 4000000 in
theorem lenrows_s (w : World) (v : Value) (ess : List (List WE)) (h : RwM w v ess) (hm : ∀ es ∈ ess, ∀ e ∈ es, e.m ≤ 35184372088832) :
    Calls Tryz.prog 7 #[v] w fun e w' => e = .returned (.int .i64 (IntKind.i64.wrap (lenM ess : Int))) ∧ Below w.heap.size w w' := by
  obtain ⟨ax, cx, rfl, hnl⟩ := h.parts
  have HX := hide h
  have HMM := hide hm
  obtain ⟨n, hn⟩ : ∃ n, ess.length = n := ⟨_, rfl⟩
  rw [hn] at HX hnl ⊢
  have HN := hide hn
  clear h hn hm
  go_enter Tryz.func7, Tryz.ntmps7
  go_wp2_with fail
  go_loopw [3, 4] (fun sv iv wr => ∃ (k : Nat) (s : Int), iv = .int .i64 k ∧ k ≤ n ∧ sv = .int .i64 s ∧ s = IntKind.i64.wrap (lenM (ess.take k) : Int) ∧ Below w.heap.size w wr) (fun _ iv _ => n - (intOf iv).toNat)
  case atStart => exact ⟨0, 0, rfl, Nat.zero_le _, rfl, rfl, Below.refl _ _⟩
  case round =>
    obtain ⟨k, s, rfl, hk, rfl, hsw, hbw⟩ := hrel
    have HW := hide hbw
    have HSW := hide hsw
    by_cases hlt : k < n
    · have hlt' : (k : Int) < (n : Int) := by omega
      have HLT := hide hlt
      obtain ⟨es, hes⟩ : ∃ e, ess[k]? = some e := ⟨_, List.getElem?_eq_getElem (by have := HN.out; omega)⟩
      obtain ⟨b, off, u, rfl, hbl, x0, hR⟩ := HX.out.cell hes
      obtain ⟨ua, uc, rfl⟩ := hR.slc
      replace x0 := (hbw.cell (p := ⟨b, off + k, none⟩) hbl).trans x0
      have hs := lenM_take hes
      have K1 := lenrow_s wr ua _ uc es (hR.below hbw) (HMM.out es (List.mem_of_getElem? hes))
      obtain ⟨t, ht⟩ : ∃ t, IntKind.i64.wrap (lenW es : Int) = t := ⟨_, rfl⟩
      rw [ht] at K1
      have K1 := hide K1
      obtain ⟨s1, hadd1⟩ : ∃ s1, IntKind.i64.wrap (s + 1) = s1 := ⟨_, rfl⟩
      obtain ⟨s2, hadd2⟩ : ∃ s2, IntKind.i64.wrap (s1 + t) = s2 := ⟨_, rfl⟩
      have HS : Hid (s2 = IntKind.i64.wrap (lenM (ess.take (k + 1)) : Int)) := (show s2 = _ by
        rw [← hadd2, ← ht, ← hadd1, HSW.out, wr64_add2, wr64_add, Int.add_assoc, wr64_add, hs]
        first | done | rfl | (congr 1; omega) | simp)
      clear hbw hs hsw hR hes ht
      go_wp2_with fail
      refine K1.out.mono ?_
      rintro e w2 ⟨rfl, hb2⟩
      have HB2 := hide (HW.out.trans (hb2.mono HW.out.size))
      clear hb2 K1 x0
      go_wp2
      go_roundw
      case rel => exact ⟨k + 1, s2, by go_num, HLT.out, rfl, HS.out, HB2.out⟩
      case measure => have := HLT.out; simp [intOf]; omega
    · have hlt' : decide ((k : Int) < (n : Int)) = false := by simp; omega
      have hkn : ess.take k = ess := List.take_of_length_le (by have := HN.out; omega)
      rw [hkn] at HSW
      clear hbw hsw
      go_wp2
      refine bodyPost_ret (v := _) (by simp [results, Tryz.results7, go_sem]; try rfl) rfl ⟨by rw [← HSW.out], HW.out⟩
theorem lenW_le {M : Nat} : ∀ {es : List WE}, (∀ e ∈ es, e.m ≤ M) → lenW es ≤ es.length * (1 + M)
  | [], _ => Nat.zero_le _
  | e :: es, h => by
    have h1 := lenW_le (es := es) (fun x hx => h x (by simp [hx]))
    have h2 := h e (by simp)
    have e1 : lenW (e :: es) = 1 + e.m + lenW es := by simp [lenW]
    rw [e1, List.length_cons, Nat.add_mul]
    omega
theorem lenM_le {M N : Nat} : ∀ {ess : List (List WE)}, (∀ es ∈ ess, es.length ≤ N ∧ ∀ e ∈ es, e.m ≤ M) → lenM ess ≤ ess.length * (1 + N * (1 + M))
  | [], _ => Nat.zero_le _
  | es :: ess, h => by
    have h1 := lenM_le (ess := ess) (fun x hx => h x (by simp [hx]))
    obtain ⟨h2, h3⟩ := h es (by simp)
    have h4 := lenW_le h3
    have h5 : es.length * (1 + M) ≤ N * (1 + M) := Nat.mul_le_mul_right _ h2
    have e1 : lenM (es :: ess) = 1 + lenW es + lenM ess := by simp [lenM]
    rw [e1, List.length_cons, Nat.add_mul]
    omega
theorem RwM.isM_s {w : World} {v : Value} {ess : List (List WE)} (h : RwM w v ess) {L : Nat} (hl : ∀ es ∈ ess, ∀ e ∈ es, e.m ≤ L) : IsM w v (zsM ess) L := by
  obtain ⟨vs, h1, h2⟩ := h
  refine ⟨vs, by simpa [zsM] using h1, fun i u z hu hz => ?_⟩
  unfold zsM at hz
  rw [List.getElem?_map] at hz
  obtain ⟨es, he, rfl⟩ := Option.map_eq_some_iff.1 hz
  have hR := h2 i u es hu he
  refine ⟨es, hR, rfl, fun e hx => ?_⟩
  obtain ⟨ao, cap, hv, _⟩ := hR.sl e hx
  obtain ⟨_, hm, _⟩ := (Value.slice.injEq .. ▸ hv)
  have := hl es (List.mem_of_getElem? he) e hx
  omega
theorem lenM_shape {ess : List (List WE)} {cols : Int} (hs : Shaped (zsM ess) cols) (hm : ∀ es ∈ ess, ∀ e ∈ es, e.m ≤ 35184372088832) : lenM ess ≤ 100000000000000000 := by
  have h1 : ess.length ≤ 64 := by have := hs.2.2.1; simpa [zsM] using this
  have h2 := lenM_le (M := 35184372088832) (N := 32) (ess := ess) (fun es he => ⟨by
    have h3 := hs.2.2.2 (es.map WE.z) (List.mem_map.2 ⟨es, he, rfl⟩)
    have h4 := hs.2.1
    rw [List.length_map] at h3
    omega, hm es he⟩)
  have h3 : ess.length * (1 + 32 * (1 + 35184372088832)) ≤ 64 * (1 + 32 * (1 + 35184372088832)) := Nat.mul_le_mul_right _ h1
  omega
end Lm
end Go.Proofs.YtnomflballofiaaGreat

namespace Go.Proofs.YtnomflballofiaaGreat
namespace Lm
open Go Go.RowKit Md
set_option maxRecDepth 20000 in
set_option maxHeartbeats 32000000 in
theorem mmakes_s (w : World) (v0 v2 : Value) (ess : List (List WE)) (cols : Int) (es : List WE) (h0 : RwM w v0 ess) (h2 : Rw w v2 es) (hlen : (∀ es ∈ ess, ∀ e ∈ es, e.m ≤ 35184372088832) ∧ ∀ e ∈ es, e.m ≤ 35184372088832) :
    Calls Tryz.prog 5 #[v0, .int .i64 cols, v2] w fun e w' => e = .returned (.bool true) ∧ Below w.heap.size w w' := by
  obtain ⟨a0, c0, rfl, hm0⟩ := h0.parts
  obtain ⟨a2, c2, rfl⟩ := h2.slc
  have hl2 := h2.parts.2
  have H0 := hide h0
  have H2 := hide h2
  have HL := hide hlen
  have K1 := hide (awake6 w)
  obtain ⟨iS, si, sz0, sz1, sz2⟩ := info_parts infoSz2
  clear h0 h2 hlen
  obtain ⟨m, hm⟩ : ∃ m, ess.length = m := ⟨_, rfl⟩
  have HM := hide hm
  rw [hm] at H0 hm0 ⊢
  obtain ⟨k2, hk2⟩ : ∃ m, es.length = m := ⟨_, rfl⟩
  have HK2 := hide hk2
  rw [hk2] at H2 hl2 ⊢
  clear hm hk2
  go_enter Tryz.func5, Tryz.ntmps5
  go_wp2_with fail
  refine K1.out.mono ?_
  rintro e w1 ⟨rfl, hb1⟩
  have HB1 := hide hb1
  have K2 := lenrows_s w1 _ ess (H0.out.below hb1) HL.out.1
  obtain ⟨lv, hlv⟩ : ∃ lv, IntKind.i64.wrap (lenM ess : Int) = lv := ⟨_, rfl⟩
  rw [hlv] at K2
  have K2 := hide K2
  have HLV := hide hlv
  clear hlv
  clear hb1 K1
  go_wp2_with fail
  refine K2.out.mono ?_
  rintro e w2 ⟨rfl, hb2⟩
  have HB2 := hide (HB1.out.trans (hb2.mono HB1.out.size))
  have K3 := lenrow_s w2 a2 k2 c2 es (H2.out.below HB2.out) HL.out.2
  obtain ⟨rv, hrv⟩ : ∃ rv, IntKind.i64.wrap (lenW es : Int) = rv := ⟨_, rfl⟩
  rw [hrv] at K3
  have K3 := hide K3
  have HRV := hide hrv
  clear hrv
  obtain ⟨tv, htv⟩ : ∃ tv, IntKind.i64.wrap (lv + rv) = tv := ⟨_, rfl⟩
  have HTV := hide htv
  clear hb2 K2
  go_wp2_with fail
  refine K3.out.mono ?_
  rintro e w3 ⟨rfl, hb3⟩
  have HB3 := hide (HB2.out.trans (hb3.mono HB2.out.size))
  clear hb3 K3
  by_cases hlong : tv > 1500
  · have hl' : tv > 1500 := hlong
    go_wp2
    refine bodyPost_ret (v := _) (by simp [results, Tryz.results5, go_sem]; try rfl) rfl ⟨rfl, HB3.out⟩
  have hl' : decide (tv > 1500) = false := by simp; omega
  have HLZ : Hid ((zsM ess).length = m) := (show (zsM ess).length = m by rw [zsM_len]; exact HM.out)
  have HVL : Hid ((es.map WE.z).length = k2) := (show (es.map WE.z).length = k2 by rw [List.length_map]; exact HK2.out)
  have HIB : Hid (IsM w (.slice a0 m c0) (zsM ess) 35184372088832) := (H0.out.isM_s HL.out.1)
  have K4 := fits_any w3 _ (zsM ess) 35184372088832 (HIB.out.below HB3.out) cols
  by_cases hsh : Shaped (zsM ess) cols
  case neg =>
    rw [decide_eq_false hsh] at K4
    have K4 := hide K4
    go_wp2_with fail
    refine K4.out.mono ?_
    rintro e w4 ⟨rfl, rfl⟩
    go_wp2
    refine bodyPost_ret (v := _) (by simp [results, Tryz.results5, go_sem]; try rfl) rfl ⟨rfl, HB3.out⟩
  rw [decide_eq_true hsh] at K4
  have K4 := hide K4
  obtain ⟨n, rfl⟩ : ∃ n : Nat, cols = (n : Int) := ⟨cols.toNat, by have := hsh.1; omega⟩
  have hn32 : n ≤ 32 := by have := hsh.2.1; omega
  have hm64 : m ≤ 64 := by have := hsh.2.2.1; have := HLZ.out; omega
  have HRN : Hid (∀ r ∈ zsM ess, r.length = n) := (fun r hr => by have := hsh.2.2.2 r hr; omega)
  have HSH := hide hsh
  clear hsh
  by_cases hkn : k2 = m
  case neg =>
    have hkn' : ((k2 : Int) == (m : Int)) = false := by rw [beq_eq_false_iff_ne]; omega
    have hkn2 : ¬ (k2 : Int) = (m : Int) := by omega
    go_wp2_with fail
    refine K4.out.mono ?_
    rintro e w4 ⟨rfl, rfl⟩
    clear K4
    go_wp2
    refine bodyPost_ret (v := _) (by simp [results, Tryz.results5, go_sem]; try rfl) rfl ⟨rfl, HB3.out⟩
  subst hkn
  have hlm : lenM ess + lenW es ≤ 1500 := by
    have h1 := lenM_shape HSH.out HL.out.1
    have h2 := lenW_le HL.out.2
    have h3 : es.length * (1 + 35184372088832) ≤ 64 * (1 + 35184372088832) := Nat.mul_le_mul_right _ (by have := HK2.out; omega)
    have h4 := HLV.out
    have h5 := HRV.out
    have h6 := HTV.out
    rw [wr64_id (by omega) (by omega)] at h4
    rw [wr64_id (by omega) (by omega)] at h5
    rw [← h4, ← h5, wr64_id (by omega) (by omega)] at h6
    omega
  have HI : Hid (IsM w (.slice a0 k2 c0) (zsM ess) 1500) := (H0.out.isM (by omega))
  have HV : Hid (IsRow w (.slice a2 k2 c2) (es.map WE.z) 1500) := (rw_isrow H2.out (by omega))
  clear HTV HLV HRV HIB
  generalize hrows : zsM ess = rows at *
  have HZS := hide hrows
  clear hrows
  by_cases hn31 : n < 32
  case neg =>
    have hn' : (32 : Int) ≤ (n : Int) := by omega
    go_wp2_with fail
    refine K4.out.mono ?_
    rintro e w4 ⟨rfl, rfl⟩
    clear K4
    go_wp2
    refine bodyPost_ret (v := _) (by simp [results, Tryz.results5, go_sem]; try rfl) rfl ⟨rfl, HB3.out⟩
  have hn' : ¬ (32 : Int) ≤ (n : Int) := by omega
  have K5 := msolve_any w3 _ _ rows (es.map WE.z) n 1500 (HI.out.below HB3.out) HSH.out (HV.out.below HB3.out) (by rw [HVL.out, HLZ.out]) (by omega)
  have K5 := hide K5
  go_wp2_with fail
  refine K4.out.mono ?_
  rintro e w4 ⟨rfl, rfl⟩
  clear K4
  go_wp2_with fail
  refine K5.out.mono ?_
  rintro e w5 ⟨hout, hb5⟩
  obtain ⟨R, Q, torn, xa, xl, xc, ok, ec, rfl, hG, hA⟩ := sol_of hout
  have HB5 := hide (HB3.out.trans (hb5.mono HB3.out.size))
  have HG := hide hG
  have HA := hide hA
  clear hout hb5 hG hA K5
  go_wp2
  go_loopw [10, 11] (fun wv iv wr => ∃ i : Nat, iv = .int .i64 (i : Int) ∧ i ≤ k2 ∧ Below w5.heap.size w5 wr ∧ OwB w w5.heap.size wr wv ((besR rows (es.map WE.z)).take i) 1500) (fun _ iv _ => k2 - (intOf iv).toNat)
  case atStart => exact ⟨0, rfl, Nat.zero_le _, Below.refl _ _, [], World.ownsRow_nil _ _ _ _, fun i u z a => (by simp at a)⟩
  case round =>
    obtain ⟨i, rfl, hi, hbi, hW⟩ := hrel
    have hbl : (besR rows (es.map WE.z)).length = k2 := by rw [besR_len, HLZ.out]
    have htl : ((besR rows (es.map WE.z)).take i).length = i := by rw [List.length_take, hbl]; omega
    have HBI := hide hbi
    obtain ⟨vs, hvs, hvr⟩ := id hW
    obtain ⟨oa, oc, rfl, _⟩ := Ce.own hvs
    rw [htl] at hvs ⊢
    by_cases hlt : i < k2
    · have hlt' : (i : Int) < (k2 : Int) := by omega
      have HLT := hide hlt
      obtain ⟨x, hx⟩ : ∃ x, ess[i]? = some x := ⟨_, List.getElem?_eq_getElem (by have := HM.out; omega)⟩
      obtain ⟨y, hy⟩ : ∃ y, es[i]? = some y := ⟨_, List.getElem?_eq_getElem (by have := HK2.out; omega)⟩
      have hrw : rows[i]? = some (x.map WE.z) := by
        rw [← HZS.out]
        unfold zsM
        rw [List.getElem?_map, hx]; rfl
      have hxn : x.length = n := by have := HRN.out _ (List.mem_of_getElem? hrw); simpa using this
      obtain ⟨b, off, u, rfl, hbl0, x0, hxR⟩ := H0.out.cell hx
      obtain ⟨ua, uc, rfl⟩ := hxR.slc
      rw [hxn] at hxR x0
      obtain ⟨b2, o2, rfl, hbl3, hc2⟩ := H2.out.cells (by have := HK2.out; omega)
      obtain ⟨f1, f2⟩ := flat_at hy
      have y0 := hc2 _ _ f1
      have y1 := hc2 _ _ f2
      have hb0 := HB5.out.trans (hbi.mono HB5.out.size)
      replace x0 := (hb0.cell (p := ⟨b, off + i, none⟩) hbl0).trans x0
      rw [← Nat.add_assoc] at y1
      replace y0 := (hb0.cell (p := ⟨b2, o2 + i * 2, none⟩) hbl3).trans y0
      replace y1 := (hb0.cell (p := ⟨b2, o2 + i * 2 + 1, none⟩) hbl3).trans y1
      have hbl2 := Nat.lt_of_lt_of_le hbl0 hb0.size
      have hbl4 := Nat.lt_of_lt_of_le hbl3 hb0.size
      have HX := hide (hxR.below hb0)
      have HES : Hid (∀ e ∈ x ++ [y], Sl w (.slice e.a e.m e.c) e.zs ∧ e.zs.length ≤ 1500) := (fun e he => by
        rcases List.mem_append.1 he with he | he
        · have h1 := lenM_mem (List.mem_of_getElem? hx)
          have h2 := rw_len hxR he
          exact ⟨hxR.sl e he, by omega⟩
        · obtain rfl := List.mem_singleton.1 he
          have h1 := rw_len H2.out (List.mem_of_getElem? hy)
          exact ⟨H2.out.sl _ (List.mem_of_getElem? hy), by omega⟩)
      have HNX : Hid ((besR rows (es.map WE.z)).take i ++ [(x ++ [y]).map WE.z] = (besR rows (es.map WE.z)).take (i + 1)) := (by
        have hyz : (es.map WE.z).getD i 0 = y.z := by rw [List.getD_eq_getElem?_getD, List.getElem?_map, hy]; rfl
        show _ = _
        rw [List.take_add_one, besR_at hrw, hyz, List.map_append]
        rfl)
      have HW := hide (And.intro hvs hvr)
      clear hbi hW hvs hvr hx hy hrw hxR hc2 f1 f2 hb0
      go_upto_region 12 with fail
      refine region_tailK 11 13 (fun j => j == 0 || j == 11 || j == 12) [58, 59, 60, 61, 62, 63, 64, 65, 66, 67, 68, 69, 70] [Eqs (.slice oa i oc), Eqs (.slice (some ⟨b, off, none⟩) k2 c0), Eqs (.int .i64 (i : Int)), Eqs (.pointer (some ⟨b, off + i, none⟩)), Eqs (.slice ua n uc), (OwnW wr.heap.size n x), Eqs (.slice (some ⟨b2, o2, none⟩) k2 c2), Eqs (.int .i64 (i : Int)), Eqs (.pointer (some ⟨b2, o2 + i * 2, none⟩)), Eqs (.agg #[.bool y.ng, .slice y.a y.m y.c]), (One2 y.ng y.a y.m y.c), (OwnW wr.heap.size (n + 1) (x ++ [y])), (OneR wr.heap.size (n + 1) (x ++ [y]))] rfl rfl (by decide) (by kernel_rfl) (by kernel_rfl) (by decide) (by kernel_rfl) (by kernel_rfl) ⟨Eqs.mono _, Eqs.mono _, Eqs.mono _, Eqs.mono _, Eqs.mono _, (OwnW.mono _ _ _), Eqs.mono _, Eqs.mono _, Eqs.mono _, Eqs.mono _, (One2.mono _ _ _ _), (OwnW.mono _ _ _), (OneR.mono _ _ _), trivial⟩ ?_ ?_ (by decide) ?_
      · intro j_ hj_ hk_ hw_ v_ w1_ w2_ hb_ hp_
        simp only [Bool.or_eq_true, beq_iff_eq] at hk_
        rcases hk_ with (rfl | rfl) | rfl
        · exact hp_
        · exact absurd rfl hj_
        · exact absurd hw_ (by rw [Bool.not_eq_false]; kernel_rfl)
      · exact ⟨⟨rfl, rfl, fun a_ w_ _ hB hR hD => ⟨fun _ => op_mv ((hR 10 rfl).trans (eval_list rfl)), fun h => absurd h (by decide)⟩⟩,
            ⟨rfl, rfl, fun a_ w_ _ hB hR hD => ⟨fun _ => op_mv ((hR 0 rfl).trans (eval_list rfl)), fun h => absurd h (by decide)⟩⟩,
            ⟨rfl, rfl, fun a_ w_ _ hB hR hD => ⟨fun _ => op_mv ((hR 11 rfl).trans (eval_list rfl)), fun h => absurd h (by decide)⟩⟩,
            ⟨rfl, rfl, fun a_ w_ _ hB hR hD => ⟨fun _ => op_idxM (show a_.eval (.tmp 59) = .slice (some ⟨b, off, none⟩) k2 c0 from hD 1 rfl) rfl (show a_.eval (.tmp 60) = .int .i64 (i : Int) from hD 2 rfl) hlt, fun h => absurd h (by decide)⟩⟩,
            ⟨rfl, rfl, fun a_ w_ _ hB hR hD => ⟨fun _ => op_ldsW (show a_.eval (.tmp 61) = .pointer (some ⟨b, off + i, none⟩) from hD 3 rfl) ((hB.cell (p := ⟨b, off + i, none⟩) hbl2).trans x0), fun h => absurd h (by decide)⟩⟩,
            ⟨rfl, rfl, fun a_ w_ _ hB hR hD => ⟨fun _ => op_app0 (show a_.eval (.tmp 62) = .slice ua n uc from hD 4 rfl) (HX.out.below hB) (by omega) hB.size, fun h => absurd h (by decide)⟩⟩,
            ⟨rfl, rfl, fun a_ w_ _ hB hR hD => ⟨fun _ => op_mv ((hR 2 rfl).trans (eval_list rfl)), fun h => absurd h (by decide)⟩⟩,
            ⟨rfl, rfl, fun a_ w_ _ hB hR hD => ⟨fun _ => op_mv ((hR 11 rfl).trans (eval_list rfl)), fun h => absurd h (by decide)⟩⟩,
            ⟨rfl, rfl, fun a_ w_ _ hB hR hD => ⟨fun _ => op_idxr (show a_.eval (.tmp 64) = .slice (some ⟨b2, o2, none⟩) k2 c2 from hD 6 rfl) rfl (show a_.eval (.tmp 65) = .int .i64 (i : Int) from hD 7 rfl) hlt, fun h => absurd h (by decide)⟩⟩,
            ⟨rfl, rfl, fun a_ w_ _ hB hR hD => ⟨fun _ => op_ldc (show a_.eval (.tmp 66) = .pointer (some ⟨b2, o2 + i * 2, none⟩) from hD 8 rfl) ((hB.cell (p := ⟨b2, o2 + i * 2, none⟩) hbl4).trans y0) ((hB.cell (p := ⟨b2, o2 + i * 2 + 1, none⟩) hbl4).trans y1) rfl, fun h => absurd h (by decide)⟩⟩,
            ⟨rfl, rfl, fun a_ w_ _ hB hR hD => ⟨fun _ => op_bsl2 (show a_.eval (.tmp 67) = .agg #[.bool y.ng, .slice y.a y.m y.c] from hD 9 rfl), fun h => absurd h (by decide)⟩⟩,
            ⟨rfl, rfl, fun a_ w_ _ hB hR hD => ⟨fun h => absurd rfl h, fun _ => op_app1 (zs := y.zs) (show (OwnW wr.heap.size n x) (a_.eval (.tmp 63)) w_ from hD 5 rfl) (show (One2 y.ng y.a y.m y.c) (a_.eval (.tmp 68)) w_ from hD 10 rfl) (by omega) hB.size⟩⟩,
            ⟨rfl, rfl, fun a_ w_ _ hB hR hD => ⟨fun _ => op_bslO (show (OwnW wr.heap.size (n + 1) (x ++ [y])) (a_.eval (.tmp 69)) w_ from hD 11 rfl), fun h => absurd h (by decide)⟩⟩,
            trivial⟩
      · intro a' w' hn' hd' hB' hR' hP'
        have e58 : a'.eval (.tmp 58) = .slice oa i oc := hP' 0 (by decide) rfl
        obtain ⟨u59, e59⟩ : ∃ u, a'.eval (.tmp 59) = u := ⟨_, rfl⟩
        obtain ⟨u60, e60⟩ : ∃ u, a'.eval (.tmp 60) = u := ⟨_, rfl⟩
        obtain ⟨u61, e61⟩ : ∃ u, a'.eval (.tmp 61) = u := ⟨_, rfl⟩
        obtain ⟨u62, e62⟩ : ∃ u, a'.eval (.tmp 62) = u := ⟨_, rfl⟩
        obtain ⟨u63, e63⟩ : ∃ u, a'.eval (.tmp 63) = u := ⟨_, rfl⟩
        obtain ⟨u64, e64⟩ : ∃ u, a'.eval (.tmp 64) = u := ⟨_, rfl⟩
        obtain ⟨u65, e65⟩ : ∃ u, a'.eval (.tmp 65) = u := ⟨_, rfl⟩
        obtain ⟨u66, e66⟩ : ∃ u, a'.eval (.tmp 66) = u := ⟨_, rfl⟩
        obtain ⟨u67, e67⟩ : ∃ u, a'.eval (.tmp 67) = u := ⟨_, rfl⟩
        obtain ⟨u68, e68⟩ : ∃ u, a'.eval (.tmp 68) = u := ⟨_, rfl⟩
        obtain ⟨u69, e69⟩ : ∃ u, a'.eval (.tmp 69) = u := ⟨_, rfl⟩
        obtain ⟨u70, e70⟩ : ∃ u, a'.eval (.tmp 70) = u := ⟨_, rfl⟩
        have hT : (OneR wr.heap.size (n + 1) (x ++ [y])) (a'.eval (.tmp 70)) w' := hP' 12 (by decide) rfl
        rw [e70] at hT
        refine tail_fit hn' hd' hR' (.s16 rfl <| .s16 rfl <| .s16 rfl <| .s4 rfl <| .s4 rfl <| .same rfl <| .same rfl <| .new e58 <| .new e59 <| .new e60 <| .new e61 <| .new e62 <| .new e63 <| .new e64 <| .new e65 <| .new e66 <| .new e67 <| .new e68 <| .new e69 <| .new e70 <| .s16 rfl <| .s16 rfl <| .s16 rfl <| .s16 rfl <| .s16 rfl <| .s16 rfl <| .s16 rfl <| .s4 rfl <| .same rfl <| .nil) ?_
        clear e58 e59 e60 e61 e62 e63 e64 e65 e66 e67 e68 e69 e70
        obtain ⟨g, u, rfl, hgh, hown⟩ := hT
        obtain ⟨sa, sc, rfl, _⟩ := Cl.own hown
        have hnews : ∀ j u', [Value.slice sa (n + 1) sc][j]? = some u' → w'.cell? ((⟨g, 0, none⟩ : Addr).add j) = some u' := fun j u' hu' => by
          rw [Addr.add_lit, Nat.zero_add, cell_of_row _ _ _ _ _ (0, 0) hgh]
          simpa using hu'
        obtain ⟨hvs, hvr⟩ := HW.out
        have hvs1 := owns_below hvs hB'
        have hxl : (x ++ [y]).length = n + 1 := by rw [List.length_append, hxn]; rfl
        have hlow1 := HBI.out.size
        have hlow2 := Nat.le_trans hlow1 hB'.size
        have HR1 : Hid (∀ (i_1 : Nat) (u : Value) (z : List Int), vs[i_1]? = some u → ((besR rows (es.map WE.z)).take i)[i_1]? = some z → ∃ es : List WE, es.map WE.z = z ∧ (∀ e ∈ es, Sl w (.slice e.a e.m e.c) e.zs ∧ e.zs.length ≤ 1500) ∧ w'.ownsRow w5.heap.size 38 2 u es.length (flat es)) := (fun i_1 u z a c => by
          obtain ⟨fs, e1, e2, e3⟩ := hvr i_1 u z a c
          exact ⟨fs, e1, e2, OwnW.mono _ _ _ _ _ _ hB' e3⟩)
        have HU : Hid (w'.ownsRow w5.heap.size 38 2 (.slice sa (n + 1) sc) (x ++ [y]).length (flat (x ++ [y]))) := (by
          have h1 := owns_low2 hown hlow1
          show World.ownsRow _ _ _ _ _ _ _
          rw [hxl]
          exact h1)
        have HB1' := hide hB'
        have HVS1 := hide hvs1
        have HTL := hide htl
        clear hown hgh hB' hR' hP' hn' hd' x0 y0 y1 hvs hvr HW htl
        refine wpList_append_own _ rfl (.tmp 58) (.tmp 70) 22 rfl w5.heap.size 34 iS (.slice none 0 0) 1 24 Tryz.underlying22 si sz0 sz1 sz2 rfl (by decide) _ _ _ rfl hvs1 ⟨g, 0, none⟩ 1 1 [.slice sa (n + 1) sc] rfl rfl hnews ?c2 ?c3 ?c4 ?c5 ?_
        case c2 => first | rfl | (intro x hx; simp at hx; subst hx; rfl)
        case c3 => unfold maxLen; omega
        case c4 => omega
        case c5 => omega
        intro v8 w8 hown8 hgrow8 _
        have hA := OwB.app (w0 := w) (v := .slice oa i oc) (rows := (besR rows (es.map WE.z)).take i) (by rw [HTL.out]; exact HVS1.out) HR1.out HES.out HU.out (by rw [HTL.out]; exact hown8) hgrow8
        rw [HNX.out] at hA
        have hbx := HBI.out.trans ((HB1'.out.mono hlow1).trans ((Below.refl _ _).grown hgrow8 hlow2 (fun j hj => (HVS1.out.lt j hj).1)))
        have HFin := hide (And.intro hA hbx)
        clear hown8 hgrow8 hA hbx hvs1 hnews
        go_wp2
        go_roundw
        case rel => exact ⟨i + 1, by go_num, HLT.out, HFin.out.2, HFin.out.1⟩
        case measure => have := HLT.out; simp [intOf]; omega
    · have hlt' : decide ((i : Int) < (k2 : Int)) = false := by simp; omega
      have hie : i = k2 := by omega
      subst hie
      rw [List.take_of_length_le (by omega)] at hW
      have HWI := hide (hW.isM (HB5.out.trans (hbi.mono HB5.out.size)))
      have HA6 := hide (HA.out.below hbi)
      have HB6 := hide (HB5.out.trans (hbi.mono HB5.out.size))
      have K7 := hide (mrank_any wr _ rows n 1500 (HI.out.below HB6.out) HSH.out (by omega))
      obtain ⟨w6, hw6⟩ : ∃ w6, w6 = wr := ⟨_, rfl⟩
      subst hw6
      clear hbi hW hvs hvr htl HA HBI
      go_wp2_with fail
      refine K7.out.mono ?_
      rintro e w7 ⟨⟨R1, Q1, hE1, rfl⟩, hb7⟩
      have HB7 := hide (HB6.out.trans (hb7.mono HB6.out.size))
      have HA7 := hide (HA6.out.below hb7)
      have HWI7 := hide (HWI.out.below hb7)
      have HE1 := hide hE1
      have hsh2 : Shaped (besR rows (es.map WE.z)) ((n + 1 : Nat) : Int) := ⟨by omega, by omega, by rw [hbl]; exact hm64, fun r hr => by rw [besR_row HRN.out r hr]⟩
      have K8 := hide (mrank_any w7 _ (besR rows (es.map WE.z)) (n + 1) 1500 HWI7.out hsh2 (by omega))
      rw [hbl] at K8
      clear K7 hb7 hE1 hsh2 HA6 HWI
      go_wp2_with fail
      refine K8.out.mono ?_
      rintro e w8 ⟨⟨R2, Q2, hE2, rfl⟩, hb8⟩
      have HB8 := hide (HB7.out.trans (hb8.mono HB7.out.size))
      have HA8 := hide (HA7.out.below hb8)
      have HE2 := hide hE2
      clear K8 hb8 hE2 HA7 HWI7
      obtain ⟨q1, hq1⟩ : ∃ q, Q1.length = q := ⟨_, rfl⟩
      obtain ⟨q2, hq2⟩ : ∃ q, Q2.length = q := ⟨_, rfl⟩
      rw [hq1, hq2]
      rcases HA8.out with ⟨ht, rfl, rfl, rfl⟩ | ⟨ht, rfl, rfl, rfl⟩ | ⟨ht, rfl, rfl, hnb, bv, rfl, rfl, rfl, hQR⟩
      · subst ht
        have hrk := torn_rank HG.out HE1.out HE2.out HRN.out
        rw [hq1, hq2] at hrk
        have hne : ((q1 : Int) == (q2 : Int)) = false := by rw [beq_eq_false_iff_ne]; omega
        have hk0 : (0 : Int) ≤ (q1 : Int) := by omega
        clear hq1 hq2 hrk
        go_wp2
        go_loopw [16, 17, 18] (fun iv _ _ wr => iv = .int .i64 0 ∧ wr = w8) (fun _ _ _ _ => 0)
        case atStart => exact ⟨rfl, rfl⟩
        case round =>
          obtain ⟨rfl, rfl⟩ := hrel
          by_cases hi0 : 0 < i
          · have hi0' : (0 : Int) < (i : Int) := by omega
            go_wp2
            go_loopw [19, 20] (fun cv kv wr => cv = .int .i64 0 ∧ kv = .int .i64 0 ∧ Below w.heap.size w wr) (fun _ _ _ => 0)
            case atStart => exact ⟨rfl, rfl, HB8.out⟩
            case round =>
              obtain ⟨rfl, rfl, hbz⟩ := hrel
              have HBZ := hide hbz
              clear hbz
              go_wp2
              refine bodyPost_ret (v := _) (by simp [results, Tryz.results5, go_sem]; try rfl) rfl ⟨rfl, HBZ.out⟩
          · have hi0' : decide ((0 : Int) < (i : Int)) = false := by simp; omega
            go_wp2
            go_loopw [19, 20] (fun cv kv wr => cv = .int .i64 0 ∧ kv = .int .i64 0 ∧ Below w.heap.size w wr) (fun _ _ _ => 0)
            case atStart => exact ⟨rfl, rfl, HB8.out⟩
            case round =>
              obtain ⟨rfl, rfl, hbz⟩ := hrel
              have HBZ := hide hbz
              clear hbz
              go_wp2
              refine bodyPost_ret (v := _) (by simp [results, Tryz.results5, go_sem]; try rfl) rfl ⟨rfl, HBZ.out⟩
      · subst ht
        obtain ⟨hr1, hr2⟩ := bes_rank HG.out HE1.out HE2.out HRN.out
        have hqq : q1 = q2 := by omega
        subst hqq
        go_wp2
        refine bodyPost_ret (v := _) (by simp [results, Tryz.results5, go_sem]; try rfl) rfl ⟨rfl, HB8.out⟩
      · subst ht
        obtain ⟨hr1, hr2⟩ := bes_rank HG.out HE1.out HE2.out HRN.out
        have hqq : q1 = q2 := by omega
        subst hqq
        obtain ⟨mm, hmm⟩ : ∃ mm, mm = i := ⟨_, rfl⟩
        subst hmm
        have hd : D R Q ≠ 0 := HG.out.gat.ne
        have HFX : Hid (∀ c, c < xc → Fit (solG xc R Q c) 32) := (fun c hc => (bigQ_iff _).1 (by
          have h1 := List.any_eq_false.1 hnb (solG xc R Q c) (List.mem_of_getElem? (qRow_at hc))
          simpa using h1))
        have HCN : Hid (cntQ Q xc = q1) := ((cntQ_all (desc_nodup HG.out.gat.desc) HG.out.gat.lt).trans (hr1.symm.trans hq1))
        have HQR := hide hQR
        have HD := hide hd
        have hql : q1 ≤ xc := by rw [← hq1, hr1]; exact desc_le HG.out.gat.desc HG.out.gat.lt
        clear hq1 hq2 hr1 hr2 hnb hQR hd HA8
        go_wp2
        go_loopw [16, 17, 18] (fun iv _ _ wr => ∃ i : Nat, iv = .int .i64 (i : Int) ∧ i ≤ mm ∧ Below w8.heap.size w8 wr) (fun iv _ _ _ => mm - (intOf iv).toNat)
        case atStart => exact ⟨0, rfl, Nat.zero_le _, Below.refl _ _⟩
        case round =>
          obtain ⟨i, rfl, hi, hbi⟩ := hrel
          obtain ⟨wo, hwo⟩ : ∃ wo, wo = wr := ⟨_, rfl⟩
          subst hwo
          have HBI := hide hbi
          by_cases hlt : i < mm
          · have hlt' : (i : Int) < (mm : Int) := by omega
            have HLT := hide hlt
            have K9 := hide (rfrom_q wo _ 0 0 (frw_zero (K := 0) wo (Nat.zero_le _)).is (by omega))
            clear hbi
            go_wp2_with fail
            refine K9.out.mono ?_
            rintro e w9 ⟨v9, rfl, h9, hb9⟩
            obtain ⟨x9, rfl⟩ := h9.agg
            have hal := hAl w9 (.cells #[.bool x9.ng, .slice x9.a x9.m x9.c, .slice x9.d x9.k x9.e] 46)
            have hnew := heap_alloc_new w9 (.cells #[.bool x9.ng, .slice x9.a x9.m x9.c, .slice x9.d x9.k x9.e] 46)
            obtain ⟨r, hr⟩ : ∃ r, rows[i]? = some r := ⟨_, List.getElem?_eq_getElem (by have := HLZ.out; omega)⟩
            have hrl := HRN.out r (List.mem_of_getElem? hr)
            have hb89 := HBI.out.trans (hb9.mono HBI.out.size)
            have HS0 : Hid (OutQr (sumQ xc R Q r 0) 2600 x9.v (w9.alloc (.cells #[.bool x9.ng, .slice x9.a x9.m x9.c, .slice x9.d x9.k x9.e] 46))) := (by
              show OutQr _ _ _ _
              rw [sumQ_zero]
              have h1 := (h9.ru (Ru.of_below hal)).fit (L' := 2600) ⟨by have := pw_pos 2600; simp; omega, by have := pw_mono (show 1 ≤ 2600 by omega); have e1 : pw 1 = 4294967296 := rfl; simp; omega⟩
              simpa using h1)
            have HN9 := hide hnew
            have HB9 := hide (hb89.trans (hal.mono hb89.size))
            have hgs : w8.heap.size ≤ w9.heap.size := hb89.size
            have HR := hide (And.intro hr hrl)
            clear K9 h9 hb9 hal hnew hr hrl hb89
            unfold FE.v
            go_wp2
            go_loopw [18] (fun cv wj => ∃ (c : Nat) (x : FE), cv = .int .i64 (c : Int) ∧ c ≤ xc ∧ Below w8.heap.size w8 wj ∧ wj.heap[w9.heap.size]? = some (.cells #[.bool x.ng, .slice x.a x.m x.c, .slice x.d x.k x.e] 46 (0, 0)) ∧ OutQr (sumQ xc R Q r c) 2600 x.v wj) (fun cv _ => xc - (intOf cv).toNat)
            case atStart => exact ⟨0, x9, rfl, Nat.zero_le _, HB9.out, HN9.out, HS0.out⟩
            case round =>
              obtain ⟨c, x, rfl, hc, hbj, hbx, hsq⟩ := hrel
              have HBJ := hide hbj
              have HBX := hide hbx
              have HSQ := hide hsq
              obtain ⟨hgl, s0, s1, s2, _, _, _⟩ := three_cells hbx
              have hb0 := HB8.out.trans (hbj.mono HB8.out.size)
              by_cases hcn : c < xc
              · have hcn' : (c : Int) < (xc : Int) := by omega
                have HCN2 := hide hcn
                obtain ⟨z, hz⟩ : ∃ z, fnR r c = z := ⟨_, rfl⟩
                have hzr : r[c]? = some z := by rw [← hz]; exact fnR_get (by rw [HR.out.2]; exact hcn)
                obtain ⟨b, off, u, rfl, hbl0, x0, hxR⟩ := HI.out.cell HR.out.1
                obtain ⟨ua, uc, rfl, _⟩ := hxR.parts
                rw [HR.out.2] at hxR x0
                obtain ⟨bx, ox, ngx, axx, mxx, cxx, rfl, hxl0, z0, z1, hzw⟩ := hxR.cell hzr
                replace x0 := (hb0.cell (p := ⟨b, off + i, none⟩) hbl0).trans x0
                replace z0 := (hb0.cell (p := ⟨bx, ox + c * 2, none⟩) hxl0).trans z0
                replace z1 := (hb0.cell (p := ⟨bx, ox + c * 2 + 1, none⟩) hxl0).trans z1
                have hbl2 := Nat.lt_of_lt_of_le hbl0 hb0.size
                have hxl := Nat.lt_of_lt_of_le hxl0 hb0.size
                have HZW := hide (hzw.ru (Ru.of_below hb0))
                have hQ := HQR.out.below hbj
                have hvl := hQ.lt
                obtain ⟨f, t0, t1, t2, _, hf⟩ := hQ.cells hcn
                have HTQ := hide ((hf hcn _ (qRow_at hcn)).fit (HFX.out c hcn))
                have hrb : ∀ c, ((fnR r c).natAbs : Int) < pw 1500 := fun c => fnR_lt (isrow_lt' hxR) (by have := pw_pos 1500; omega) c
                have hzb : (z.natAbs : Int) < pw 1500 := by rw [← hz]; exact hrb c
                have HFM := hide ((fit2_mul hzb (show Fit2 (solG xc R Q c) 32 32 from HFX.out c hcn)).fit (L := 1532) (by omega) (by omega))
                have HNX := hide (sumQ_next (n := xc) r HD.out c)
                have HFA : Hid (Fit (sumQ xc R Q r c + ((z : Int) : Rat) * solG xc R Q c) 2600) := (by
                  have h1 := (sumQ_fit (n := xc) HD.out hrb HFX.out (c + 1) hcn).fit (L := 2600) (by omega) (by omega)
                  rw [HNX.out, hz] at h1
                  exact h1)
                rw [hz] at HNX
                clear hbj hbx hsq hb0 hz hzr hxR hzw hQ hf hrb hzb
                go_upto_region 28 with fail
                refine region_tail 15 [148, 149, 150, 151, 152, 153, 154, 155, 156, 157, 158, 159, 160, 161, 162] [(OutQr (sumQ xc R Q r c) 2600), Eqs (.slice (some ⟨b, off, none⟩) mm c0), Eqs (.int .i64 (i : Int)), Eqs (.pointer (some ⟨b, off + i, none⟩)), Eqs (.slice (some ⟨bx, ox, none⟩) xc uc), Eqs (.int .i64 (c : Int)), Eqs (.pointer (some ⟨bx, ox + c * 2, none⟩)), (IsW z 1500), (OutQr ((z : Int) : Rat) (1500 + 2)), Eqs (.slice (some ⟨bv, 0, none⟩) xc xc), Eqs (.int .i64 (c : Int)), Eqs (.pointer (some ⟨bv, c * 3, none⟩)), (OutQr (solG xc R Q c) 32), (OutQr (((z : Int) : Rat) * solG xc R Q c) 1532), (OutQr (sumQ xc R Q r c + ((z : Int) : Rat) * solG xc R Q c) 2600)] rfl rfl (by decide) (by kernel_rfl) (by kernel_rfl) (by decide) (by kernel_rfl) ⟨(OutQr.mono _ _), Eqs.mono _, Eqs.mono _, Eqs.mono _, Eqs.mono _, Eqs.mono _, Eqs.mono _, (Mono.of4 (IsW.mono4 _ _)), (OutQr.mono _ _), Eqs.mono _, Eqs.mono _, Eqs.mono _, (OutQr.mono _ _), (OutQr.mono _ _), (OutQr.mono _ _), trivial⟩ ?_ ?_
                · exact ⟨⟨rfl, fun a_ w_ _ hB hR hD => op_ldQ ((hR 17 rfl).trans (eval_list rfl)) ((hB.cell (p := ⟨w9.heap.size, 0, none⟩) hgl).trans s0) ((hB.cell (p := ⟨w9.heap.size, 1, none⟩) hgl).trans s1) ((hB.cell (p := ⟨w9.heap.size, 2, none⟩) hgl).trans s2) (OutQr.mono _ _ _ _ _ hB HSQ.out)⟩,
                      ⟨rfl, fun a_ w_ _ hB hR hD => op_mv ((hR 0 rfl).trans (eval_list rfl))⟩,
                      ⟨rfl, fun a_ w_ _ hB hR hD => op_mv ((hR 16 rfl).trans (eval_list rfl))⟩,
                      ⟨rfl, fun a_ w_ _ hB hR hD => op_idxM (show a_.eval (.tmp 149) = .slice (some ⟨b, off, none⟩) mm c0 from hD 1 rfl) rfl (show a_.eval (.tmp 150) = .int .i64 (i : Int) from hD 2 rfl) HLT.out⟩,
                      ⟨rfl, fun a_ w_ _ hB hR hD => op_ldsW (show a_.eval (.tmp 151) = .pointer (some ⟨b, off + i, none⟩) from hD 3 rfl) ((hB.cell (p := ⟨b, off + i, none⟩) hbl2).trans x0)⟩,
                      ⟨rfl, fun a_ w_ _ hB hR hD => op_mv ((hR 18 rfl).trans (eval_list rfl))⟩,
                      ⟨rfl, fun a_ w_ _ hB hR hD => op_idxr (show a_.eval (.tmp 152) = .slice (some ⟨bx, ox, none⟩) xc uc from hD 4 rfl) rfl (show a_.eval (.tmp 153) = .int .i64 (c : Int) from hD 5 rfl) hcn⟩,
                      ⟨rfl, fun a_ w_ _ hB hR hD => op_ldc (show a_.eval (.tmp 154) = .pointer (some ⟨bx, ox + c * 2, none⟩) from hD 6 rfl) ((hB.cell (p := ⟨bx, ox + c * 2, none⟩) hxl).trans z0) ((hB.cell (p := ⟨bx, ox + c * 2 + 1, none⟩) hxl).trans z1) (Mono.of4 (IsW.mono4 _ _) _ _ _ hB HZW.out)⟩,
                      ⟨rfl, fun a_ w_ _ hB hR hD => op_fromQ (show (IsW z 1500) (a_.eval (.tmp 155)) w_ from hD 7 rfl) (by omega)⟩,
                      ⟨rfl, fun a_ w_ _ hB hR hD => op_mv ((hR 7 rfl).trans (eval_list rfl))⟩,
                      ⟨rfl, fun a_ w_ _ hB hR hD => op_mv ((hR 18 rfl).trans (eval_list rfl))⟩,
                      ⟨rfl, fun a_ w_ _ hB hR hD => op_idxQ (show a_.eval (.tmp 157) = .slice (some ⟨bv, 0, none⟩) xc xc from hD 9 rfl) (show a_.eval (.tmp 158) = .int .i64 (c : Int) from hD 10 rfl) hcn⟩,
                      ⟨rfl, fun a_ w_ _ hB hR hD => op_ldQr (show a_.eval (.tmp 159) = .pointer (some ⟨bv, c * 3, none⟩) from hD 11 rfl) ((hB.cell (p := ⟨bv, c * 3, none⟩) hvl).trans t0) ((hB.cell (p := ⟨bv, c * 3 + 1, none⟩) hvl).trans t1) ((hB.cell (p := ⟨bv, c * 3 + 2, none⟩) hvl).trans t2) (OutQr.mono _ _ _ _ _ hB HTQ.out)⟩,
                      ⟨rfl, fun a_ w_ _ hB hR hD => op_mulQ (show (OutQr ((z : Int) : Rat) (1500 + 2)) (a_.eval (.tmp 156)) w_ from hD 8 rfl) (show (OutQr (solG xc R Q c) 32) (a_.eval (.tmp 160)) w_ from hD 12 rfl) (by omega) HFM.out⟩,
                      ⟨rfl, fun a_ w_ _ hB hR hD => op_addQ (show (OutQr (sumQ xc R Q r c) 2600) (a_.eval (.tmp 148)) w_ from hD 0 rfl) (show (OutQr (((z : Int) : Rat) * solG xc R Q c) 1532) (a_.eval (.tmp 161)) w_ from hD 13 rfl) (by omega) HFA.out⟩,
                      trivial⟩
                · intro a' w' hn' hd' hB' hR' hP'
                  obtain ⟨u148, e148⟩ : ∃ u, a'.eval (.tmp 148) = u := ⟨_, rfl⟩
                  have e149 : a'.eval (.tmp 149) = .slice (some ⟨b, off, none⟩) mm c0 := hP' 1 (by decide)
                  have e150 : a'.eval (.tmp 150) = .int .i64 (i : Int) := hP' 2 (by decide)
                  have e151 : a'.eval (.tmp 151) = .pointer (some ⟨b, off + i, none⟩) := hP' 3 (by decide)
                  have e152 : a'.eval (.tmp 152) = .slice (some ⟨bx, ox, none⟩) xc uc := hP' 4 (by decide)
                  have e153 : a'.eval (.tmp 153) = .int .i64 (c : Int) := hP' 5 (by decide)
                  have e154 : a'.eval (.tmp 154) = .pointer (some ⟨bx, ox + c * 2, none⟩) := hP' 6 (by decide)
                  obtain ⟨u155, e155⟩ : ∃ u, a'.eval (.tmp 155) = u := ⟨_, rfl⟩
                  obtain ⟨u156, e156⟩ : ∃ u, a'.eval (.tmp 156) = u := ⟨_, rfl⟩
                  have e157 : a'.eval (.tmp 157) = .slice (some ⟨bv, 0, none⟩) xc xc := hP' 9 (by decide)
                  have e158 : a'.eval (.tmp 158) = .int .i64 (c : Int) := hP' 10 (by decide)
                  have e159 : a'.eval (.tmp 159) = .pointer (some ⟨bv, c * 3, none⟩) := hP' 11 (by decide)
                  obtain ⟨u160, e160⟩ : ∃ u, a'.eval (.tmp 160) = u := ⟨_, rfl⟩
                  obtain ⟨u161, e161⟩ : ∃ u, a'.eval (.tmp 161) = u := ⟨_, rfl⟩
                  obtain ⟨u162, e162⟩ : ∃ u, a'.eval (.tmp 162) = u := ⟨_, rfl⟩
                  have hT : (OutQr (sumQ xc R Q r c + ((z : Int) : Rat) * solG xc R Q c) 2600) (a'.eval (.tmp 162)) w' := hP' 14 (by decide)
                  rw [e162] at hT
                  refine tail_fit hn' hd' hR' (.s16 rfl <| .s16 rfl <| .s16 rfl <| .s16 rfl <| .s16 rfl <| .s16 rfl <| .s16 rfl <| .s16 rfl <| .s16 rfl <| .s4 rfl <| .new e148 <| .new e149 <| .new e150 <| .new e151 <| .new e152 <| .new e153 <| .new e154 <| .new e155 <| .new e156 <| .new e157 <| .new e158 <| .new e159 <| .new e160 <| .new e161 <| .new e162 <| .s16 rfl <| .s4 rfl <| .s4 rfl <| .same rfl <| .nil) ?_
                  clear e148 e149 e150 e151 e152 e153 e154 e155 e156 e157 e158 e159 e160 e161 e162
                  obtain ⟨x', rfl⟩ := hT.agg
                  have hbx2 := (hB'.block _ (lt_of_heap HBX.out)).trans HBX.out
                  obtain ⟨hg2, p0, p1, p2, pf0, pf1, pf2⟩ := three_cells hbx2
                  have hru : Ru w' (((w'.setCell ⟨w9.heap.size, 0, none⟩ (.bool x'.ng)).setCell ⟨w9.heap.size, 1, none⟩ (.slice x'.a x'.m x'.c)).setCell ⟨w9.heap.size, 2, none⟩ (.slice x'.d x'.k x'.e)) := by
                    have t : Tch w9.heap.size _ _ := ((set_tch w' w9.heap.size 0 (.bool x'.ng)).trans (set_tch _ _ 1 (.slice x'.a x'.m x'.c))).trans (set_tch _ _ 2 (.slice x'.d x'.k x'.e))
                    refine Ru.of_one hbx2 (by decide) (fun i z hz => ?_) t.size (fun k hk hn => t.other k hk hn)
                    match i with
                    | 0 => simp at hz
                    | 1 => simp at hz
                    | 2 => simp at hz
                    | i + 3 => simp at hz
                  have HT2 := hide (hT.ru hru)
                  have HBX2 := hide hbx2
                  have hbj2 := HBJ.out.trans (hB'.mono HBJ.out.size)
                  have HBJ2 := hide (((hbj2.setCell (p := ⟨w9.heap.size, 0, none⟩) hgs (.bool x'.ng)).setCell (p := ⟨w9.heap.size, 1, none⟩) hgs (.slice x'.a x'.m x'.c)).setCell (p := ⟨w9.heap.size, 2, none⟩) hgs (.slice x'.d x'.k x'.e))
                  clear hT hbx2 hru hbj2 hB' hR' hP' hn' hd' x0 z0 z1 t0 t1 t2 s0 s1 s2
                  unfold FE.v
                  go_wp2
                  go_roundw
                  case rel => exact ⟨c + 1, x', by go_num, HCN2.out, HBJ2.out, set_r3 HBX2.out _ _ _, by rw [HNX.out]; exact HT2.out⟩
                  case measure => have := HCN2.out; simp [intOf]; omega
              · have hcn' : decide ((c : Int) < (xc : Int)) = false := by simp; omega
                have hce : c = xc := by omega
                subst hce
                obtain ⟨yz, hyz⟩ : ∃ yz, (es.map WE.z)[i]? = some yz := ⟨_, List.getElem?_eq_getElem (by have := HVL.out; omega)⟩
                have hyd : (es.map WE.z).getD i 0 = yz := by rw [List.getD_eq_getElem?_getD, hyz]; rfl
                obtain ⟨b2, o2, ngy, ayy, myy, cyy, rfl, hbl3, y0, y1, hyw⟩ := HV.out.cell hyz
                replace y0 := (hb0.cell (p := ⟨b2, o2 + i * 2, none⟩) hbl3).trans y0
                replace y1 := (hb0.cell (p := ⟨b2, o2 + i * 2 + 1, none⟩) hbl3).trans y1
                have hbl4 := Nat.lt_of_lt_of_le hbl3 hb0.size
                have HYW := hide (hyw.ru (Ru.of_below hb0))
                have hsv : sumQ c R Q r c = ((yz : Int) : Rat) := by
                  unfold sumQ
                  rw [sol_sum HG.out HRN.out HR.out.1, hyd, divInt_whole HD.out]
                rw [hsv] at hsq
                have HSQ := hide hsq
                clear hbj hbx hsq hb0 hyz hyd hyw hsv
                go_upto_region 29 with fail
                refine region_tail 8 [163, 164, 165, 166, 167, 168, 169, 170] [(OutQr ((yz : Int) : Rat) 2600), Eqs (.slice (some ⟨b2, o2, none⟩) mm c2), Eqs (.int .i64 (i : Int)), Eqs (.pointer (some ⟨b2, o2 + i * 2, none⟩)), (IsW yz 1500), (OutQr ((yz : Int) : Rat) (1500 + 2)), Eqs ((.int .i64 0)), Eqs (.bool false)] rfl rfl (by decide) (by kernel_rfl) (by kernel_rfl) (by decide) (by kernel_rfl) ⟨(OutQr.mono _ _), Eqs.mono _, Eqs.mono _, Eqs.mono _, (Mono.of4 (IsW.mono4 _ _)), (OutQr.mono _ _), Eqs.mono _, Eqs.mono _, trivial⟩ ?_ ?_
                · exact ⟨⟨rfl, fun a_ w_ _ hB hR hD => op_ldQ ((hR 17 rfl).trans (eval_list rfl)) ((hB.cell (p := ⟨w9.heap.size, 0, none⟩) hgl).trans s0) ((hB.cell (p := ⟨w9.heap.size, 1, none⟩) hgl).trans s1) ((hB.cell (p := ⟨w9.heap.size, 2, none⟩) hgl).trans s2) (OutQr.mono _ _ _ _ _ hB HSQ.out)⟩,
                      ⟨rfl, fun a_ w_ _ hB hR hD => op_mv ((hR 2 rfl).trans (eval_list rfl))⟩,
                      ⟨rfl, fun a_ w_ _ hB hR hD => op_mv ((hR 16 rfl).trans (eval_list rfl))⟩,
                      ⟨rfl, fun a_ w_ _ hB hR hD => op_idxr (show a_.eval (.tmp 164) = .slice (some ⟨b2, o2, none⟩) mm c2 from hD 1 rfl) rfl (show a_.eval (.tmp 165) = .int .i64 (i : Int) from hD 2 rfl) HLT.out⟩,
                      ⟨rfl, fun a_ w_ _ hB hR hD => op_ldc (show a_.eval (.tmp 166) = .pointer (some ⟨b2, o2 + i * 2, none⟩) from hD 3 rfl) ((hB.cell (p := ⟨b2, o2 + i * 2, none⟩) hbl4).trans y0) ((hB.cell (p := ⟨b2, o2 + i * 2 + 1, none⟩) hbl4).trans y1) (Mono.of4 (IsW.mono4 _ _) _ _ _ hB HYW.out)⟩,
                      ⟨rfl, fun a_ w_ _ hB hR hD => op_fromQ (show (IsW yz 1500) (a_.eval (.tmp 167)) w_ from hD 4 rfl) (by omega)⟩,
                      ⟨rfl, fun a_ w_ _ hB hR hD => op_cmpQ (show (OutQr ((yz : Int) : Rat) 2600) (a_.eval (.tmp 163)) w_ from hD 0 rfl) (show (OutQr ((yz : Int) : Rat) (1500 + 2)) (a_.eval (.tmp 168)) w_ from hD 5 rfl) (by omega)⟩,
                      ⟨rfl, fun a_ w_ _ hB hR hD => op_neqI0 (show a_.eval (.tmp 169) = (.int .i64 0) from hD 6 rfl)⟩,
                      trivial⟩
                · intro a' w' hn' hd' hB' hR' hP'
                  obtain ⟨u163, e163⟩ : ∃ u, a'.eval (.tmp 163) = u := ⟨_, rfl⟩
                  have e164 : a'.eval (.tmp 164) = .slice (some ⟨b2, o2, none⟩) mm c2 := hP' 1 (by decide)
                  have e165 : a'.eval (.tmp 165) = .int .i64 (i : Int) := hP' 2 (by decide)
                  have e166 : a'.eval (.tmp 166) = .pointer (some ⟨b2, o2 + i * 2, none⟩) := hP' 3 (by decide)
                  obtain ⟨u167, e167⟩ : ∃ u, a'.eval (.tmp 167) = u := ⟨_, rfl⟩
                  obtain ⟨u168, e168⟩ : ∃ u, a'.eval (.tmp 168) = u := ⟨_, rfl⟩
                  have e169 : a'.eval (.tmp 169) = (.int .i64 0) := hP' 6 (by decide)
                  have e170 : a'.eval (.tmp 170) = .bool false := hP' 7 (by decide)
                  refine tail_fit hn' hd' hR' (.s16 rfl <| .s16 rfl <| .s16 rfl <| .s16 rfl <| .s16 rfl <| .s16 rfl <| .s16 rfl <| .s16 rfl <| .s16 rfl <| .s16 rfl <| .same rfl <| .same rfl <| .same rfl <| .new e163 <| .new e164 <| .new e165 <| .new e166 <| .new e167 <| .new e168 <| .new e169 <| .new e170 <| .s16 rfl <| .same rfl <| .nil) ?_
                  clear e163 e164 e165 e166 e167 e168 e169 e170
                  have HBJ3 := hide (HBJ.out.trans (hB'.mono HBJ.out.size))
                  clear hB' hR' hP' hn' hd' y0 y1 s0 s1 s2
                  go_wp2
                  go_roundw
                  case rel => exact ⟨i + 1, by go_num, HLT.out, HBJ3.out⟩
                  case measure => have := HLT.out; simp [intOf]; omega
          · have hlt' : decide ((i : Int) < (mm : Int)) = false := by simp; omega
            clear hbi
            go_wp2
            go_loopw [19, 20] (fun cv kv wr => ∃ k c : Nat, kv = .int .i64 (k : Int) ∧ cv = .int .i64 (c : Int) ∧ c ≤ cntQ Q k ∧ k ≤ xc ∧ Below w8.heap.size w8 wr) (fun _ kv _ => xc - (intOf kv).toNat)
            case atStart => exact ⟨0, 0, rfl, rfl, Nat.zero_le _, Nat.zero_le _, HBI.out⟩
            case round =>
              obtain ⟨k, c, rfl, rfl, hck, hk, hbk⟩ := hrel
              have HBK := hide hbk
              have HCK := hide hck
              have hcl : cntQ Q k ≤ k := by have := cntQ_free Q k; omega
              have hc32 : c ≤ 32 := by omega
              by_cases hkn : k < xc
              · have hkn' : (k : Int) < (xc : Int) := by omega
                have HKN := hide hkn
                have hQ := HQR.out.below hbk
                have hvl := hQ.lt
                obtain ⟨f, t0, t1, t2, _, hf⟩ := hQ.cells hkn
                have KS := rsign_q wr _ _ 32 ((hf hkn _ (qRow_at hkn)).fit (HFX.out k hkn)).is (by omega)
                unfold FE.v at KS
                have KS := hide KS
                clear hbk hck hQ hf hcl
                go_wp2_with fail
                refine KS.out.mono ?_
                rintro e w11 ⟨s, rfl, hs, hb11⟩
                have HB11 := hide (HBK.out.trans (hb11.mono HBK.out.size))
                have HSZ := hide hs
                clear KS hb11 t0 t1 t2 hs
                by_cases hs0 : s = 0
                · subst hs0
                  go_wp2
                  go_roundw
                  case rel =>
                    refine ⟨k + 1, c, by go_num, rfl, ?_, HKN.out, HB11.out⟩
                    have := HCK.out
                    by_cases hkQ : k ∈ Q
                    · rw [cntQ_in hkQ]; omega
                    · rw [cntQ_out hkQ]; exact this
                  case measure => have := HKN.out; simp [intOf]; omega
                · have hs0' : (s == 0) = false := beq_eq_false_iff_ne.2 hs0
                  have hkQ : k ∈ Q := Classical.byContradiction fun hno => hs0 (HSZ.out (by
                    unfold solG solN
                    rw [if_neg hno]
                    exact Rat.zero_divInt _))
                  have HKQ := hide hkQ
                  clear hkQ
                  go_wp2
                  go_roundw
                  case rel => exact ⟨k + 1, c + 1, by go_num, by go_num, by rw [cntQ_in HKQ.out]; have := HCK.out; omega, HKN.out, HB11.out⟩
                  case measure => have := HKN.out; simp [intOf]; omega
              · have hkn' : decide ((k : Int) < (xc : Int)) = false := by simp; omega
                have hke : k = xc := by omega
                subst hke
                have hle : (c : Int) ≤ (q1 : Int) := by rw [HCN.out] at hck; omega
                clear hbk hck hcl
                go_wp2
                refine bodyPost_ret (v := _) (by simp [results, Tryz.results5, go_sem]; try rfl) rfl ⟨rfl, HB8.out.trans (HBK.out.mono HB8.out.size)⟩
end Lm
end Go.Proofs.YtnomflballofiaaGreat

namespace Go.Proofs.YtnomflballofiaaGreat
namespace matrixMakesLaw
open Go.ChangeShapes Go.WideShapes Go.ChangeAt Go.RowKit
open Go.ChangeMaps (open_string shut_string)
theorem own : ownKnob Tryz.prog.godebug = none := by kernel_rfl
theorem laidOut : laidOutB Tryz.prog = true := by kernel_rfl
set_option linter.unusedVariables false in
set_option maxRecDepth 100000 in
theorem lifted (os : Os) (started : os.Started) (H : Type) (enc : TypeId × Value → H) :
    ReturnsInHanded {} Tryz.checked os 5 .any (Rows.matrixMakesSpec.pre6 enc Tryz.prog Tryz.f5 Rows.matrixMakesRow.domain false) (Rows.matrixMakesSpec.post enc Tryz.prog Tryz.f5 false true false false) := by
  refine returnsInHanded_of_change_sized (C := Tryz.checked) own started (by kernel_rfl) Tryz.func5
    (ChangeSpec.witness6 (enc := enc) (C := Tryz.checked) false ⟨#[], #[.slice none 0 0, .int .i64 0, .slice none 0 0], []⟩ 8 (by kernel_rfl) (by kernel_rfl) (by kernel_rfl) (by kernel_rfl)) ?_
  intro W base args ds gs before hval0 hW hcnd hsz0 _
  have hval : ∀ (j : Nat) t v, Tryz.f5.params[j]? = some t → args[j]? = some v → Value.okWide Tryz.prog W .any base t v := hval0
  have hW' := hW
  obtain ⟨p, q, hA0, hV, rfl, hfz, hnd⟩ := hW
  have hA : DataW.TrodAll enc Tryz.prog W 0 (fun _ => true) true Tryz.f5.params.toList args.toList ds p := hA0
  have hsz : (DataW.weightsEach Tryz.prog (Tryz.f5.params.toList ++ Rows.matrixMakesSpec.plain.varTypes Tryz.prog) (ds ++ gs)).all (· ≤ reachBytes) = true := hsz0
  rw [Tryz.params5] at hA hval hsz
  obtain ⟨v0, vs0, d0, ds0, p0, q0, hargs, rfl, rfl, h0, r_0⟩ := trodAll_cons hA
  obtain ⟨v1, vs1, d1, ds1, p1, q1, rfl, rfl, rfl, h1, r_1⟩ := trodAll_cons r_0
  obtain ⟨v2, vs2, d2, ds2, p2, q2, rfl, rfl, rfl, h2, r_2⟩ := trodAll_cons r_1
  obtain ⟨rfl, rfl, rfl⟩ := trodAll_nil r_2
  obtain rfl : args = #[v0, v1, v2] := by cases args; simp_all
  obtain ⟨rfl, rfl⟩ := trodVars_none hV
  obtain ⟨a0, len0, cap0, rfl⟩ := okWide_slice Tryz.underlying22 (hval 0 22 v0 rfl rfl)
  have k0 := h0
  have lt0 : ∀ x ∈ p0, x.block < W.heap.size := by obtain ⟨m, hm⟩ := k0; exact DataW.trod_lt m _ _ _ hm
  obtain ⟨z0, w0, b0⟩ : ∃ ess, Lm.RwM W (.slice a0 len0 cap0) ess ∧ ∀ es ∈ ess, ∀ e ∈ es, e.m ≤ 35184372088832 := by
    obtain ⟨fuel, hf⟩ := h0
    refine Lm.open_rows_s (x := (d0, p0)) (by simpa [Value.cells] using hf) (fun k hk => ?_)
    have := List.all_eq_true.1 hsz k (DataW.weights_mem_each (j := 0) (t := 22) (d := d0) rfl rfl k hk)
    simpa using this
  obtain ⟨a1, rfl, rfl, rfl, w1⟩ := open_int Tryz.underlying3 (hval 1 3 v1 rfl rfl) h1
  obtain ⟨a2, len2, cap2, rfl⟩ := okWide_slice Tryz.underlying34 (hval 2 34 v2 rfl rfl)
  have k2 := h2
  have lt2 : ∀ x ∈ p2, x.block < W.heap.size := by obtain ⟨m, hm⟩ := k2; exact DataW.trod_lt m _ _ _ hm
  obtain ⟨z2, w2, b2⟩ : ∃ es, Lm.Rw W (.slice a2 len2 cap2) es ∧ ∀ e ∈ es, e.m ≤ 35184372088832 := by
    obtain ⟨fuel, hf⟩ := h2
    refine Lm.open_row_s (x := (d2, p2)) (by simpa [Value.cells] using hf) (fun k hk => ?_)
    have := List.all_eq_true.1 hsz k (DataW.weights_mem_each (j := 2) (t := 34) (d := d2) rfl rfl k hk)
    simpa using this
  clear hA0 hval0
  refine (Lm.mmakes_s W (.slice a0 len0 cap0) (.slice a2 len2 cap2) z0 a1 z2 w0 w2 ⟨b0, b2⟩).mono fun e W' ⟨he, bel⟩ => ?_
  subst he
  exact ⟨_, rfl, _, _, _, [], _, [], hW', trodAll_mk1 (shut_bool Tryz.underlying4 _), (trodAll_cons_mk (Below.trod laidOut (by kernel_rfl) (of_decide_eq_true (by kernel_rfl)) k0 bel lt0) (trodAll_cons_mk (shut_int Tryz.underlying3 w1) (trodAll_cons_mk (Below.trod laidOut (by kernel_rfl) (of_decide_eq_true (by kernel_rfl)) k2 bel lt2) trodAll_mk0))), rfl, bel.frame _, fun h => by cases h⟩
theorem over : Rows.matrixMakesRow.holds Tryz.pinned (OpenSpec.ofChange Rows.matrixMakesSpec) :=
  OpenClaim.holds_of_wide 5 Tryz.f5 rfl rfl rfl rfl rfl rfl rfl ⟨rfl, rfl, rfl, rfl, rfl⟩ rfl rfl rfl rfl rfl (by kernel_rfl) Tryz.func5 (by kernel_rfl)
    (of_decide_eq_true (by kernel_rfl)) (by unfold Func.isWrapper; first | (rw [if_pos (by decide +kernel)]; kernel_rfl) | (rw [if_neg (by decide +kernel)]; exact ⟨rfl, rfl⟩))
    (fun os started H enc _ => lifted os started H enc)
end matrixMakesLaw
theorem matrixMakes_holds : Rows.MatrixMakesSaid := matrixMakesLaw.over
#print axioms matrixMakes_holds
end Go.Proofs.YtnomflballofiaaGreat

