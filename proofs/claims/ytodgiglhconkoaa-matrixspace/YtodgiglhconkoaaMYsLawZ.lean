/-
  The given statement on MatrixSpace, for every input: the call answers true, and each argument reads behind it as it read before. No condition beyond the statement's own. Beside it: MatrixSpace: other rows of the same row space have the same echelon form.
-/
import Derived.Test.YtodgiglhconkoaaRows
import Derived.ProofKit
import Derived.OpenShut
import Derived.ShutString
import Derived.ChangeOld
import Derived.SizedLaws
import Derived.Test.YtodgiglhconkoaaMYsLawZ3
namespace Go.Proofs.Ytodgiglhconkoaa
namespace Lm
open Go Go.RowKit Md
theorem op_ofF {dst : Option Tmp} {ty : TypeId} {pos : String} {after : Array Edge} {guard : Option (Nat × Bool)} {a : Act} {w : World} {ats : Array TypeId} {i K : Nat} {v : Int} (h : a.eval (.tmp i) = .int .i64 v) (h1 : -9223372036854775808 ≤ v) (h2 : v ≤ 9223372036854775807) (hK : K ≤ w.heap.size) :
    Does Try.prog { dst, op := .call { callee := .value (.func 9), args := #[.tmp i], argTypes := ats }, type := ty, pos, after, guard } a.eval w fun v' w' => Below w.heap.size w w' ∧ FrW K v 2 v' w' :=
  does_call has_of #[.int .i64 v] (by simp [h]) ((wofF w v h1 h2).mono fun e w' ⟨r, he, hf, hb⟩ => ⟨r, he, hb, hf.low hK⟩)
theorem op_addw {dst : Option Tmp} {ty : TypeId} {pos : String} {after : Array Edge} {guard : Option (Nat × Bool)} {a : Act} {w : World} {ats : Array TypeId} {i j : Nat} {x y : Int} {L M K : Nat} (h1 : IsW x L (a.eval (.tmp i)) w) (h2 : IsW y M (a.eval (.tmp j)) w) (hL : L ≤ 400000) (hM : M ≤ 400000) (hK : K ≤ w.heap.size) :
    Does Try.prog { dst, op := .call { callee := .value (.func 10), args := #[.tmp i, .tmp j], argTypes := ats }, type := ty, pos, after, guard } a.eval w fun v w' => Below w.heap.size w w' ∧ FrW K (x + y) (L + M + 1) v w' :=
  does_call has_add #[_, _] (by simp) ((addF _ x y _ _ L M h1 h2 hL hM).mono fun e w' ⟨v, h, hf, hb⟩ => ⟨v, h, hb, hf.low hK⟩)
def OneF (K : Nat) (z : Int) (L : Nat) : Says := fun v w => ∃ g ng ao m c, v = .slice (some ⟨g, 0, none⟩) 1 1 ∧ One w g ng ao m c ∧ FrW K z L (.agg #[.bool ng, .slice ao m c]) w
theorem OneF.mono (K : Nat) (z : Int) (L : Nat) : Mono (OneF K z L) := fun _ _ _ hb ⟨g, ng, ao, m, c, h1, h2, h3⟩ => ⟨g, ng, ao, m, c, h1, h2.below hb, h3.ru (Ru.of_below hb)⟩
theorem op_bslF {dst : Option Tmp} {ty : TypeId} {pos : String} {after : Array Edge} {guard : Option (Nat × Bool)} {a : Act} {w : World} {i K L : Nat} {z : Int} (h : FrW K z L (a.eval (.tmp i)) w) :
    Does Try.prog { dst, op := .buildSlice 27 1 #[(0, .tmp i)], type := ty, pos, after, guard } a.eval w fun v w' => Below w.heap.size w w' ∧ OneF K z L v w' := by
  obtain ⟨ng, ao, m, c, e⟩ := h.agg
  refine (op_bsl e).mono fun v w' ⟨h1, h2, h3⟩ => ⟨h3, w.heap.size, ng, ao, m, c, h1, h2, ?_⟩
  rw [← e]
  exact h.ru (Ru.of_below h3)
theorem zsM_len (ess : List (List WE)) : (zsM ess).length = ess.length := by simp [zsM]
theorem tmod_nat (i l : Nat) : Int.tmod (i : Int) (l : Int) = ((i % l : Nat) : Int) := by rw [Int.tmod_eq_emod_of_nonneg (by omega)]; omega
theorem gRow_succ (g : Nat → Int) (c : Nat) : gRow g (c + 1) = gRow g c ++ [g c] := by simp [gRow, List.range_succ]
theorem cells_two_new (w : World) (a b : Value) (E : TypeId) : ∀ j u, [a, b][j]? = some u → (w.alloc (.cells #[a, b] E)).cell? ((⟨w.heap.size, 0, none⟩ : Addr).add j) = some u := fun j u hu => by
  have hc : (w.alloc (.cells #[a, b] E)).cell? ⟨w.heap.size, j, none⟩ = #[a, b][j]? := cell_of_row _ _ _ _ _ (0, 0) (heap_alloc_new w (.cells #[a, b] E))
  have ha : (⟨w.heap.size, 0, none⟩ : Addr).add j = ⟨w.heap.size, j, none⟩ := by unfold Addr.add; split <;> simp_all
  rw [ha, hc]
  simpa using hu
theorem fnR_get {l : List Int} {c : Nat} (h : c < l.length) : l[c]? = some (fnR l c) := by
  unfold fnR
  rw [List.getD_eq_getElem?_getD, List.getElem?_eq_getElem h]
  rfl
set_option maxRecDepth 20000 in
set_option maxHeartbeats 16000000 in
theorem mspace_s (w : World) (v0 v2 : Value) (ess : List (List WE)) (cols : Int) (bs : List Int) (h0 : RwM w v0 ess) (hlen : ∀ es ∈ ess, ∀ e ∈ es, e.m ≤ 35184372088832) (h2 : Nums w v2 bs) (hbs : ∀ z ∈ bs, -9223372036854775808 ≤ z ∧ z ≤ 9223372036854775807) :
    Calls Try.prog 3 #[v0, .int .i64 cols, v2] w fun e w' => e = .returned (.bool true) ∧ Below w.heap.size w w' := by
  obtain ⟨a0, c0, rfl, hm0⟩ := h0.parts
  obtain ⟨a2, c2, rfl, hc2, hc2', _⟩ := id h2
  have hm2 : bs.length ≤ 9223372036854775807 := by omega
  have H0 := hide h0
  have H2 := hide h2
  have HBS := hide hbs
  have HL := hide hlen
  have K1 := hide (awake6 w)
  obtain ⟨iW, hiW, hzW0, hzW1, hzW2⟩ := info_parts infoSz
  clear h0 h2 hlen hbs hc2 hc2'
  obtain ⟨m, hm⟩ : ∃ m, ess.length = m := ⟨_, rfl⟩
  have HM := hide hm
  rw [hm] at H0 hm0 ⊢
  clear hm
  go_enter Try.func3, Try.ntmps3
  go_wp2_with fail
  refine K1.out.mono ?_
  rintro e w1 ⟨rfl, hb1⟩
  have HB1 := hide hb1
  have K2 := lenrows_s w1 _ ess (H0.out.below hb1) HL.out
  obtain ⟨lv, hlv⟩ : ∃ lv, IntKind.i64.wrap (lenM ess : Int) = lv := ⟨_, rfl⟩
  rw [hlv] at K2
  have K2 := hide K2
  have HLV := hide hlv
  clear hlv
  clear hb1 K1
  go_wp2_with fail
  refine K2.out.mono ?_
  rintro e w2 ⟨rfl, hb2⟩
  have HB2 := hide (HB1.out.trans (hb2.mono HB1.out.size))
  clear hb2 K2
  by_cases hlong : lv > 1500
  · have hl' : lv > 1500 := hlong
    go_wp2
    refine bodyPost_ret (v := _) (by simp [results, Try.results3, go_sem]; try rfl) rfl ⟨rfl, HB2.out⟩
  have hl' : decide (lv > 1500) = false := by simp; omega
  have HLZ : Hid ((zsM ess).length = m) := (show (zsM ess).length = m by rw [zsM_len]; exact HM.out)
  have HIB : Hid (IsM w (.slice a0 m c0) (zsM ess) 35184372088832) := (H0.out.isM_s HL.out)
  have K3 := hide (fits_any w2 _ (zsM ess) 35184372088832 (HIB.out.below HB2.out) cols)
  by_cases hsh : Shaped (zsM ess) cols
  case neg =>
    rw [decide_eq_false hsh] at K3
    go_wp2_with fail
    refine K3.out.mono ?_
    rintro e w3 ⟨rfl, rfl⟩
    go_wp2
    refine bodyPost_ret (v := _) (by simp [results, Try.results3, go_sem]; try rfl) rfl ⟨rfl, HB2.out⟩
  have hlm : lenM ess ≤ 1500 := by
    have h1 := lenM_shape hsh HL.out
    have h2 := HLV.out
    rw [wr64_id (by omega) (by omega)] at h2
    omega
  have HI : Hid (IsM w (.slice a0 m c0) (zsM ess) 1500) := (H0.out.isM hlm)
  clear HIB hlm HLV
  generalize hrows : zsM ess = rows at *
  rw [decide_eq_true hsh] at K3
  go_wp2_with fail
  refine K3.out.mono ?_
  rintro e w3 ⟨rfl, rfl⟩
  by_cases hm1 : m = 0
  · subst hm1
    go_wp2
    refine bodyPost_ret (v := _) (by simp [results, Try.results3, go_sem]; try rfl) rfl ⟨rfl, HB2.out⟩
  have hm1' : ((m : Int) == 0) = false := by rw [beq_eq_false_iff_ne]; omega
  by_cases hm20 : m > 20
  · have hm20' : (m : Int) > 20 := by omega
    go_wp2
    refine bodyPost_ret (v := _) (by simp [results, Try.results3, go_sem]; try rfl) rfl ⟨rfl, HB2.out⟩
  have hm20' : decide ((m : Int) > 20) = false := by simp; omega
  have hsub : IntKind.i64.wrap ((m : Int) - 1) = (m : Int) - 1 := by rw [IntKind.wrap_i64]; omega
  obtain ⟨n, rfl⟩ : ∃ n : Nat, cols = n := ⟨cols.toNat, by have := hsh.1; omega⟩
  have HSH := hide hsh
  have hn32 : n ≤ 32 := by have := hsh.2.1; omega
  have HRN : Hid (∀ r ∈ rows, r.length = n) := (fun r hr => by have := HSH.out.2.2.2 r hr; omega)
  have hm20 : m ≤ 20 := by omega
  have hm1 : 0 < m := by omega
  clear hsh K3 hl' hlong
  go_wp2_with fail
  obtain ⟨w2, rfl⟩ : ∃ x, x = w3 := ⟨_, rfl⟩
  go_loopw [7, 8, 9, 10, 11, 12, 13] (fun ov iv _ _ _ _ _ wr => ∃ j : Nat, iv = .int .i64 ((m : Int) - 1 - (j : Int)) ∧ j ≤ m ∧ OtM w.heap.size wr ov (othR rows bs n j) 1502 ∧ Below w.heap.size w wr) (fun _ iv _ _ _ _ _ _ => (intOf iv + 1).toNat)
  case atStart => exact ⟨0, by simp, Nat.zero_le _, OtM.nil _ _ _, HB2.out⟩
  case round =>
    obtain ⟨j, rfl, hj, hO, hbw⟩ := hrel
    have HO := hide hO
    have HW := hide hbw
    obtain ⟨oa, oc, rfl, _⟩ := hO.isM.parts
    by_cases hlt : j < m
    · obtain ⟨i, hi⟩ : ∃ i : Nat, i = m - 1 - j := ⟨_, rfl⟩
      have hii : ((m : Int) - 1 - (j : Int)) = (i : Int) := by omega
      rw [hii]
      have hge : (i : Int) ≥ 0 := by omega
      have him : i < m := by omega
      have him' : (i + 1) % m < m := Nat.mod_lt _ (by omega)
      have HIJ : Hid (i = m - 1 - j) := hi
      obtain ⟨b0, o0, ux, rfl, h0l, x0, hx⟩ := HI.out.cell (i := i) (rowAt_get (by have := HLZ.out; omega))
      obtain ⟨_, _, uy, he, _, y0, hy⟩ := HI.out.cell (i := (i + 1) % m) (rowAt_get (by have := HLZ.out; omega))
      simp only [Option.some.injEq, Addr.mk.injEq, and_true] at he
      obtain ⟨rfl, rfl⟩ := he
      obtain ⟨ax, cx, rfl, _⟩ := hx.parts
      obtain ⟨ay, cy, rfl, _⟩ := hy.parts
      have lx := HRN.out _ (rowAt_mem (rows := rows) (i := i) (by have := HLZ.out; omega))
      have ly := HRN.out _ (rowAt_mem (rows := rows) (i := (i + 1) % m) (by have := HLZ.out; omega))
      rw [lx] at x0 hx
      rw [ly] at y0 hy
      have HX := hide (hx.below hbw)
      have HY := hide (hy.below hbw)
      replace x0 := (hbw.cell (p := ⟨b0, o0 + i, none⟩) h0l).trans x0
      replace y0 := (hbw.cell (p := ⟨b0, o0 + (i + 1) % m, none⟩) h0l).trans y0
      replace h0l := Nat.lt_of_lt_of_le h0l hbw.size
      have HN2 := hide (Ce.below H2.out hbw)
      clear hbw hO hx hy hi hii
      go_upto_if 46 with fail
      go_cut [9] (fun kv wx => kv = .int .i64 (kA bs i) ∧ wx = wr)
      case first =>
        by_cases hbn : bs = []
        · have HK : Hid (kA bs i = 1) := if_pos hbn
          subst hbn
          go_wp2_with fail
          go_meet
          exact ⟨by rw [HK.out], rfl⟩
        · have hbl : 0 < bs.length := List.length_pos_iff.2 hbn
          have hbl' : (bs.length : Int) > 0 := by omega
          have hrm := tmod_nat i bs.length
          have hnz : ((bs.length : Int) == 0) = false := by rw [beq_eq_false_iff_ne]; omega
          have hml : i % bs.length < bs.length := Nat.mod_lt _ hbl
          obtain ⟨bb, ob, hA, z0⟩ := Nums.cell (show Nums wr (.slice a2 bs.length c2) bs from by unfold Nums; simpa using HN2.out) hml
          subst hA
          have HK : Hid (kA bs i = bs[i % bs.length]) := (show kA bs i = _ by unfold kA; rw [if_neg hbn, List.getD_eq_getElem?_getD, List.getElem?_eq_getElem hml]; rfl)
          generalize bs[i % bs.length] = kz at *
          go_wp2_with fail
          go_meet
          exact ⟨by rw [HK.out], rfl⟩
      case rest =>
        obtain ⟨hk9, hwc⟩ := hcut
        subst hk9
        subst hwc
        have HKR := hide (kOf_range HBS.out i)
        go_upto_if 55 with fail
        go_cut [9] (fun kv wx => kv = .int .i64 (kOf bs i) ∧ wx = wc)
        case first =>
          by_cases hk0 : kA bs i = 0
          · have HK : Hid (kOf bs i = -3) := if_pos hk0
            rw [hk0]
            go_wp2_with fail
            go_meet
            exact ⟨by rw [HK.out], rfl⟩
          · have HK : Hid (kOf bs i = kA bs i) := if_neg hk0
            have hk0' : (kA bs i == 0) = false := beq_eq_false_iff_ne.2 hk0
            generalize kA bs i = kz at *
            go_wp2_with fail
            go_meet
            exact ⟨by rw [HK.out], rfl⟩
        case rest =>
          obtain ⟨hk9, hwd⟩ := hcut
          subst hk9
          subst hwd
          have HMU : Hid (∀ c, mulF' rows bs i c = fnR (rowAt rows i) c * kOf bs i) := (fun c => rfl)
          generalize kOf bs i = kk at *
          have hrm := tmod_nat (i + 1) m
          have hrm2 : IntKind.i64.wrap ((i : Int) + 1) = (i : Int) + 1 := by rw [IntKind.wrap_i64]; omega
          have hmz : ((m : Int) == 0) = false := by rw [beq_eq_false_iff_ne]; omega
          rw [Int.natCast_add] at hrm
          have hrm3 : Int.tmod ((i : Int) + 1) (m : Int) = (((i + 1) % m : Nat) : Int) := hrm
          clear hrm
          have HAD : Hid (∀ c, addF' rows i c = fnR (rowAt rows i) c + fnR (rowAt rows ((i + 1) % m)) c) := (fun c => by unfold addF'; rw [HLZ.out])
          generalize (i + 1) % m = i2 at *
          go_wp2_with fail
          go_loopw [10, 11, 13] (fun rv sv cv wx => ∃ (c : Nat) (e1 e2 : List WE), cv = .int .i64 c ∧ c ≤ n ∧ RwO wc.heap.size wx rv e1 ∧ e1.map WE.z = gRow (mulF' rows bs i) c ∧ (∀ e ∈ e1, e.zs.length ≤ 1502) ∧ RwO wc.heap.size wx sv e2 ∧ e2.map WE.z = gRow (addF' rows i) c ∧ (∀ e ∈ e2, e.zs.length ≤ 1502) ∧ Apt rv sv ∧ Below wc.heap.size wc wx) (fun _ _ cv _ => n - (intOf cv).toNat)
          case atStart => exact ⟨0, [], [], rfl, Nat.zero_le _, rwo_nil _ _, rfl, fun e he => (by cases he), rwo_nil _ _, rfl, fun e he => (by cases he), apt_nil _, Below.refl _ _⟩
          case round =>
            obtain ⟨c, e1, e2, rfl, hcn, hR1, hz1, hl1, hR2, hz2, hl2, hap, hbx⟩ := hrel
            have he1 : e1.length = c := by have := congrArg List.length hz1; simpa [gRow_len] using this
            have he2 : e2.length = c := by have := congrArg List.length hz2; simpa [gRow_len] using this
            obtain ⟨ra, rc, hrv, _⟩ := Cl.own hR1.own
            obtain ⟨sa, sc, hsv, _⟩ := Cl.own hR2.own
            rw [he1] at hrv
            rw [he2] at hsv
            subst hrv hsv
            have HR1 := hide hR1
            have HR2 := hide hR2
            have HZ1 := hide (And.intro hz1 hl1)
            have HZ2 := hide (And.intro hz2 hl2)
            have HE := hide (And.intro he1 he2)
            have HAP := hide hap
            have HBX := hide hbx
            by_cases hlc : c < n
            · have hlc' : (c : Int) < (n : Int) := by omega
              obtain ⟨xz, hxz⟩ : ∃ z, fnR (rowAt rows i) c = z := ⟨_, rfl⟩
              obtain ⟨yz, hyz⟩ : ∃ z, fnR (rowAt rows i2) c = z := ⟨_, rfl⟩
              have gx : (rowAt rows i)[c]? = some xz := by rw [← hxz]; exact fnR_get (by omega)
              have gy : (rowAt rows i2)[c]? = some yz := by rw [← hyz]; exact fnR_get (by omega)
              obtain ⟨bx, ox, ngx, axx, mxx, cxx, rfl, hxl, p0, p1, hxw⟩ := HX.out.cell gx
              obtain ⟨by_, oy, ngy, ayy, myy, cyy, rfl, hyl, q0, q1, hyw⟩ := HY.out.cell gy
              have HXW := hide hxw
              have HYW := hide hyw
              have HMU1 : Hid (mulF' rows bs i c = xz * kk) := (show _ = _ by rw [HMU.out c, hxz])
              have HAD1 : Hid (addF' rows i c = xz + yz) := (show _ = _ by rw [HAD.out c, hxz, hyz])
              have h0lr := Nat.lt_of_lt_of_le h0l HBX.out.size
              have hxlr := Nat.lt_of_lt_of_le hxl HBX.out.size
              have hylr := Nat.lt_of_lt_of_le hyl HBX.out.size
              have x0r := (HBX.out.cell (p := ⟨b0, o0 + i, none⟩) h0l).trans x0
              have p0r := (HBX.out.cell (p := ⟨bx, ox + c * 2, none⟩) hxl).trans p0
              have p1r := (HBX.out.cell (p := ⟨bx, ox + c * 2 + 1, none⟩) hxl).trans p1
              have q0r := (HBX.out.cell (p := ⟨by_, oy + c * 2, none⟩) hyl).trans q0
              have q1r := (HBX.out.cell (p := ⟨by_, oy + c * 2 + 1, none⟩) hyl).trans q1
              have HXWr := hide (HXW.out.ru (Ru.of_below HBX.out))
              have HYWr := hide (HYW.out.ru (Ru.of_below HBX.out))
              clear hR1 hz1 hl1 hR2 hz2 hl2 hap hbx hxw hyw gx gy hxz hyz he1 he2
              go_upto_region 22 with fail
              refine region_tail2 12 [69, 70, 71, 72, 73, 74, 75, 76, 77, 78, 79, 80] [Eqs (.slice ra c rc), Eqs (.slice (some ⟨b0, o0, none⟩) m c0), Eqs (.int .i64 (i : Int)), Eqs (.pointer (some ⟨b0, o0 + i, none⟩)), Eqs (.slice (some ⟨bx, ox, none⟩) n cx), Eqs (.int .i64 (c : Int)), Eqs (.pointer (some ⟨bx, ox + c * 2, none⟩)), (IsW xz 1500), Eqs (.int .i64 kk), (FrW wr.heap.size kk 2), (FrW wr.heap.size (xz * kk) (1500 + 2)), (OneF wr.heap.size (xz * kk) (1500 + 2))] rfl rfl (by decide) (by kernel_rfl) (by kernel_rfl) (by decide) (by kernel_rfl) ⟨Eqs.mono _, Eqs.mono _, Eqs.mono _, Eqs.mono _, Eqs.mono _, Eqs.mono _, Eqs.mono _, (Mono.of4 (IsW.mono4 _ _)), Eqs.mono _, (Mono.of4 (FrW.mono4 _ _ _)), (Mono.of4 (FrW.mono4 _ _ _)), (OneF.mono _ _ _), trivial⟩ ?_ ?_
              · exact ⟨⟨rfl, fun a_ w_ _ hB hR hD => op_mv ((hR 10 rfl).trans (eval_list rfl))⟩,
                    ⟨rfl, fun a_ w_ _ hB hR hD => op_mv ((hR 0 rfl).trans (eval_list rfl))⟩,
                    ⟨rfl, fun a_ w_ _ hB hR hD => op_mv ((hR 8 rfl).trans (eval_list rfl))⟩,
                    ⟨rfl, fun a_ w_ _ hB hR hD => op_idxM (show a_.eval (.tmp 70) = .slice (some ⟨b0, o0, none⟩) m c0 from hD 1 rfl) rfl (show a_.eval (.tmp 71) = .int .i64 (i : Int) from hD 2 rfl) (by omega)⟩,
                    ⟨rfl, fun a_ w_ _ hB hR hD => op_ldsW (show a_.eval (.tmp 72) = .pointer (some ⟨b0, o0 + i, none⟩) from hD 3 rfl) ((hB.cell (p := ⟨b0, o0 + i, none⟩) h0lr).trans x0r)⟩,
                    ⟨rfl, fun a_ w_ _ hB hR hD => op_mv ((hR 13 rfl).trans (eval_list rfl))⟩,
                    ⟨rfl, fun a_ w_ _ hB hR hD => op_idxr (show a_.eval (.tmp 73) = .slice (some ⟨bx, ox, none⟩) n cx from hD 4 rfl) rfl (show a_.eval (.tmp 74) = .int .i64 (c : Int) from hD 5 rfl) (by omega)⟩,
                    ⟨rfl, fun a_ w_ _ hB hR hD => op_ldc (show a_.eval (.tmp 75) = .pointer (some ⟨bx, ox + c * 2, none⟩) from hD 6 rfl) ((hB.cell (p := ⟨bx, ox + c * 2, none⟩) hxlr).trans p0r) ((hB.cell (p := ⟨bx, ox + c * 2 + 1, none⟩) hxlr).trans p1r) (Mono.of4 (IsW.mono4 _ _) _ _ _ hB HXWr.out)⟩,
                    ⟨rfl, fun a_ w_ _ hB hR hD => op_mv ((hR 9 rfl).trans (eval_list rfl))⟩,
                    ⟨rfl, fun a_ w_ _ hB hR hD => op_ofF (show a_.eval (.tmp 77) = .int .i64 kk from hD 8 rfl) HKR.out.1 HKR.out.2 hB.size⟩,
                    ⟨rfl, fun a_ w_ _ hB hR hD => op_mulw (show (IsW xz 1500) (a_.eval (.tmp 76)) w_ from hD 7 rfl) (FrW.is (show (FrW wr.heap.size kk 2) (a_.eval (.tmp 78)) w_ from hD 9 rfl)) (by omega) (by omega) hB.size⟩,
                    ⟨rfl, fun a_ w_ _ hB hR hD => op_bslF (show (FrW wr.heap.size (xz * kk) (1500 + 2)) (a_.eval (.tmp 79)) w_ from hD 10 rfl)⟩,
                    trivial⟩
              · intro a' w' hn' hd' hB' hR' hP'
                have e69 : a'.eval (.tmp 69) = .slice ra c rc := hP' 0 (by decide)
                have e70 : a'.eval (.tmp 70) = .slice (some ⟨b0, o0, none⟩) m c0 := hP' 1 (by decide)
                have e71 : a'.eval (.tmp 71) = .int .i64 (i : Int) := hP' 2 (by decide)
                have e72 : a'.eval (.tmp 72) = .pointer (some ⟨b0, o0 + i, none⟩) := hP' 3 (by decide)
                have e73 : a'.eval (.tmp 73) = .slice (some ⟨bx, ox, none⟩) n cx := hP' 4 (by decide)
                have e74 : a'.eval (.tmp 74) = .int .i64 (c : Int) := hP' 5 (by decide)
                have e75 : a'.eval (.tmp 75) = .pointer (some ⟨bx, ox + c * 2, none⟩) := hP' 6 (by decide)
                obtain ⟨u76, e76⟩ : ∃ u, a'.eval (.tmp 76) = u := ⟨_, rfl⟩
                have e77 : a'.eval (.tmp 77) = .int .i64 kk := hP' 8 (by decide)
                obtain ⟨u78, e78⟩ : ∃ u, a'.eval (.tmp 78) = u := ⟨_, rfl⟩
                obtain ⟨u79, e79⟩ : ∃ u, a'.eval (.tmp 79) = u := ⟨_, rfl⟩
                obtain ⟨u80, e80⟩ : ∃ u, a'.eval (.tmp 80) = u := ⟨_, rfl⟩
                have hT : (OneF wr.heap.size (xz * kk) (1500 + 2)) (a'.eval (.tmp 80)) w' := hP' 11 (by decide)
                rw [e80] at hT
                refine tail_fit hn' hd' hR' (.s16 rfl <| .s16 rfl <| .s16 rfl <| .s16 rfl <| .s4 rfl <| .same rfl <| .new e69 <| .new e70 <| .new e71 <| .new e72 <| .new e73 <| .new e74 <| .new e75 <| .new e76 <| .new e77 <| .new e78 <| .new e79 <| .new e80 <| .s16 rfl <| .s16 rfl <| .s4 rfl <| .s4 rfl <| .same rfl <| .nil) ?_
                clear e69 e70 e71 e72 e73 e74 e75 e76 e77 e78 e79 e80
                obtain ⟨g7, ng7, a7, m7, c7, rfl, hO7, hf7⟩ := hT
                obtain ⟨_, _, c7', rs7, B7, T7, hv7, hwf7, hB7, hT7, hl7⟩ := id hf7
                simp only [Value.agg.injEq, Array.mk.injEq, List.cons.injEq, Value.bool.injEq, Value.slice.injEq, and_true] at hv7
                obtain ⟨rfl, rfl, rfl, rfl⟩ := hv7
                have hsz := Nat.le_trans HBX.out.size hB'.size
                have hRa := HR1.out.below hB'
                have hSa : Ow wc.heap.size w' (.slice a7 rs7.length c7) rs7 := hwf7.fr.ow.mono (Nat.le_trans HBX.out.size hB7)
                have hzz : WE.z ⟨ng7, a7, rs7.length, c7, rs7⟩ = mulF' rows bs i c := by
                  rw [HMU1.out]
                  exact hwf7.wh.worth
                have HB' := hide hB'
                have HZZ := hide (And.intro hzz hl7)
                clear hB' hR' hP' hn' hd' hzz
                refine wpList_does rfl (op_appT (i := 69) (j := 80) rfl rfl hRa hO7 hSa (by have := HE.out; omega) hsz) ?_
                rintro v3 w3 ⟨hR3, hg3, hloc3⟩
                obtain ⟨cr3, hcr3⟩ := hRa.row
                have hb3 : Below wc.heap.size wc w3 := (HBX.out.trans (HB'.out.mono HBX.out.size)).trans ((Below.refl _ _).grown hg3 hsz (fun k hk => (hRa.own.lt k hk).1))
                have hRs := HR2.out.below HB'.out
                have hRs3 := hRs.keep hg3 hcr3 (by decide) HAP.out
                have hap3 : Apt v3 (.slice sa c sc) := by
                  intro g h1 h2
                  rcases hloc3 with e | e
                  · exact HAP.out g (e.symm.trans h1) h2
                  · rw [e] at h1
                    have := (hRs.own.lt g h2).2
                    have := Option.some.inj h1
                    omega
                have hz3 : (e1 ++ [(⟨ng7, a7, rs7.length, c7, rs7⟩ : WE)]).map WE.z = gRow (mulF' rows bs i) (c + 1) := by
                  rw [gRow_succ, List.map_append, HZ1.out.1, List.map_cons, List.map_nil, HZZ.out.1]
                have hl3 : ∀ e ∈ e1 ++ [(⟨ng7, a7, rs7.length, c7, rs7⟩ : WE)], e.zs.length ≤ 1502 := by
                  intro e he
                  rcases List.mem_append.1 he with he | he
                  · exact HZ1.out.2 e he
                  · obtain rfl := List.mem_singleton.1 he
                    exact HZZ.out.2
                generalize he1' : e1 ++ [(⟨ng7, a7, rs7.length, c7, rs7⟩ : WE)] = e1' at *
                have hle1 : e1'.length = c + 1 := by rw [← he1', List.length_append, HE.out.1]; rfl
                obtain ⟨ra2, rc2, hrv2, _⟩ := Cl.own hR3.own
                rw [hle1] at hrv2
                subst hrv2
                have HR3 := hide hR3
                have HRS := hide hRs3
                have HAP3 := hide hap3
                have HZ3 := hide (And.intro hz3 hl3)
                have HB3 := hide hb3
                have h0l3 := Nat.lt_of_lt_of_le h0l HB3.out.size
                have hxl3 := Nat.lt_of_lt_of_le hxl HB3.out.size
                have hyl3 := Nat.lt_of_lt_of_le hyl HB3.out.size
                have x03 := (HB3.out.cell (p := ⟨b0, o0 + i, none⟩) h0l).trans x0
                have p03 := (HB3.out.cell (p := ⟨bx, ox + c * 2, none⟩) hxl).trans p0
                have p13 := (HB3.out.cell (p := ⟨bx, ox + c * 2 + 1, none⟩) hxl).trans p1
                have q03 := (HB3.out.cell (p := ⟨by_, oy + c * 2, none⟩) hyl).trans q0
                have q13 := (HB3.out.cell (p := ⟨by_, oy + c * 2 + 1, none⟩) hyl).trans q1
                have HXW3 := hide (HXW.out.ru (Ru.of_below HB3.out))
                have HYW3 := hide (HYW.out.ru (Ru.of_below HB3.out))
                clear hR3 hg3 hloc3 hcr3 hb3 hRs hRs3 hap3 hz3 hl3 he1' hle1 hRa hSa hO7 hf7 hwf7 hB7 hT7 hl7 hsz x0r p0r p1r q0r q1r h0lr hxlr hylr
                go_upto_region 23 with fail
                refine region_tail2 14 [82, 83, 84, 85, 86, 87, 88, 89, 90, 91, 92, 93, 94, 95] [Eqs (.slice sa c sc), Eqs (.slice (some ⟨b0, o0, none⟩) m c0), Eqs (.int .i64 (i : Int)), Eqs (.pointer (some ⟨b0, o0 + i, none⟩)), Eqs (.slice (some ⟨bx, ox, none⟩) n cx), Eqs (.int .i64 (c : Int)), Eqs (.pointer (some ⟨bx, ox + c * 2, none⟩)), (IsW xz 1500), Eqs (.slice (some ⟨by_, oy, none⟩) n cy), Eqs (.int .i64 (c : Int)), Eqs (.pointer (some ⟨by_, oy + c * 2, none⟩)), (IsW yz 1500), (FrW w3.heap.size (xz + yz) (1500 + 1500 + 1)), (OneF w3.heap.size (xz + yz) (1500 + 1500 + 1))] rfl rfl (by decide) (by kernel_rfl) (by kernel_rfl) (by decide) (by kernel_rfl) ⟨Eqs.mono _, Eqs.mono _, Eqs.mono _, Eqs.mono _, Eqs.mono _, Eqs.mono _, Eqs.mono _, (Mono.of4 (IsW.mono4 _ _)), Eqs.mono _, Eqs.mono _, Eqs.mono _, (Mono.of4 (IsW.mono4 _ _)), (Mono.of4 (FrW.mono4 _ _ _)), (OneF.mono _ _ _), trivial⟩ ?_ ?_
                · exact ⟨⟨rfl, fun a_ w_ _ hB hR hD => op_mv ((hR 11 rfl).trans (eval_list rfl))⟩,
                      ⟨rfl, fun a_ w_ _ hB hR hD => op_mv ((hR 0 rfl).trans (eval_list rfl))⟩,
                      ⟨rfl, fun a_ w_ _ hB hR hD => op_mv ((hR 8 rfl).trans (eval_list rfl))⟩,
                      ⟨rfl, fun a_ w_ _ hB hR hD => op_idxM (show a_.eval (.tmp 83) = .slice (some ⟨b0, o0, none⟩) m c0 from hD 1 rfl) rfl (show a_.eval (.tmp 84) = .int .i64 (i : Int) from hD 2 rfl) (by omega)⟩,
                      ⟨rfl, fun a_ w_ _ hB hR hD => op_ldsW (show a_.eval (.tmp 85) = .pointer (some ⟨b0, o0 + i, none⟩) from hD 3 rfl) ((hB.cell (p := ⟨b0, o0 + i, none⟩) h0l3).trans x03)⟩,
                      ⟨rfl, fun a_ w_ _ hB hR hD => op_mv ((hR 13 rfl).trans (eval_list rfl))⟩,
                      ⟨rfl, fun a_ w_ _ hB hR hD => op_idxr (show a_.eval (.tmp 86) = .slice (some ⟨bx, ox, none⟩) n cx from hD 4 rfl) rfl (show a_.eval (.tmp 87) = .int .i64 (c : Int) from hD 5 rfl) (by omega)⟩,
                      ⟨rfl, fun a_ w_ _ hB hR hD => op_ldc (show a_.eval (.tmp 88) = .pointer (some ⟨bx, ox + c * 2, none⟩) from hD 6 rfl) ((hB.cell (p := ⟨bx, ox + c * 2, none⟩) hxl3).trans p03) ((hB.cell (p := ⟨bx, ox + c * 2 + 1, none⟩) hxl3).trans p13) (Mono.of4 (IsW.mono4 _ _) _ _ _ hB HXW3.out)⟩,
                      ⟨rfl, fun a_ w_ _ hB hR hD => op_mv ((hR 12 rfl).trans (eval_list rfl))⟩,
                      ⟨rfl, fun a_ w_ _ hB hR hD => op_mv ((hR 13 rfl).trans (eval_list rfl))⟩,
                      ⟨rfl, fun a_ w_ _ hB hR hD => op_idxr (show a_.eval (.tmp 90) = .slice (some ⟨by_, oy, none⟩) n cy from hD 8 rfl) rfl (show a_.eval (.tmp 91) = .int .i64 (c : Int) from hD 9 rfl) (by omega)⟩,
                      ⟨rfl, fun a_ w_ _ hB hR hD => op_ldc (show a_.eval (.tmp 92) = .pointer (some ⟨by_, oy + c * 2, none⟩) from hD 10 rfl) ((hB.cell (p := ⟨by_, oy + c * 2, none⟩) hyl3).trans q03) ((hB.cell (p := ⟨by_, oy + c * 2 + 1, none⟩) hyl3).trans q13) (Mono.of4 (IsW.mono4 _ _) _ _ _ hB HYW3.out)⟩,
                      ⟨rfl, fun a_ w_ _ hB hR hD => op_addw (show (IsW xz 1500) (a_.eval (.tmp 89)) w_ from hD 7 rfl) (show (IsW yz 1500) (a_.eval (.tmp 93)) w_ from hD 11 rfl) (by omega) (by omega) hB.size⟩,
                      ⟨rfl, fun a_ w_ _ hB hR hD => op_bslF (show (FrW w3.heap.size (xz + yz) (1500 + 1500 + 1)) (a_.eval (.tmp 94)) w_ from hD 12 rfl)⟩,
                      trivial⟩
                · intro a' w' hn' hd' hB' hR' hP'
                  have e82 : a'.eval (.tmp 82) = .slice sa c sc := hP' 0 (by decide)
                  have e83 : a'.eval (.tmp 83) = .slice (some ⟨b0, o0, none⟩) m c0 := hP' 1 (by decide)
                  have e84 : a'.eval (.tmp 84) = .int .i64 (i : Int) := hP' 2 (by decide)
                  have e85 : a'.eval (.tmp 85) = .pointer (some ⟨b0, o0 + i, none⟩) := hP' 3 (by decide)
                  have e86 : a'.eval (.tmp 86) = .slice (some ⟨bx, ox, none⟩) n cx := hP' 4 (by decide)
                  have e87 : a'.eval (.tmp 87) = .int .i64 (c : Int) := hP' 5 (by decide)
                  have e88 : a'.eval (.tmp 88) = .pointer (some ⟨bx, ox + c * 2, none⟩) := hP' 6 (by decide)
                  obtain ⟨u89, e89⟩ : ∃ u, a'.eval (.tmp 89) = u := ⟨_, rfl⟩
                  have e90 : a'.eval (.tmp 90) = .slice (some ⟨by_, oy, none⟩) n cy := hP' 8 (by decide)
                  have e91 : a'.eval (.tmp 91) = .int .i64 (c : Int) := hP' 9 (by decide)
                  have e92 : a'.eval (.tmp 92) = .pointer (some ⟨by_, oy + c * 2, none⟩) := hP' 10 (by decide)
                  obtain ⟨u93, e93⟩ : ∃ u, a'.eval (.tmp 93) = u := ⟨_, rfl⟩
                  obtain ⟨u94, e94⟩ : ∃ u, a'.eval (.tmp 94) = u := ⟨_, rfl⟩
                  obtain ⟨u95, e95⟩ : ∃ u, a'.eval (.tmp 95) = u := ⟨_, rfl⟩
                  have hT : (OneF w3.heap.size (xz + yz) (1500 + 1500 + 1)) (a'.eval (.tmp 95)) w' := hP' 13 (by decide)
                  rw [e95] at hT
                  refine tail_fit hn' hd' hR' (.s16 rfl <| .s16 rfl <| .s16 rfl <| .s16 rfl <| .s16 rfl <| .same rfl <| .same rfl <| .new e82 <| .new e83 <| .new e84 <| .new e85 <| .new e86 <| .new e87 <| .new e88 <| .new e89 <| .new e90 <| .new e91 <| .new e92 <| .new e93 <| .new e94 <| .new e95 <| .s16 rfl <| .s4 rfl <| .s4 rfl <| .same rfl <| .same rfl <| .nil) ?_
                  clear e82 e83 e84 e85 e86 e87 e88 e89 e90 e91 e92 e93 e94 e95
                  obtain ⟨g9, ng9, a9, m9, c9, rfl, hO9, hf9⟩ := hT
                  have hf9' := hf9.fit (L' := 1502) (by
                    have h1 := isw_lt HXW3.out
                    have h2 := isw_lt HYW3.out
                    have h3 : pw 1502 = 4294967296 * (4294967296 * pw 1500) := rfl
                    omega)
                  obtain ⟨_, _, _, rs9, B9, T9, hv9, hwf9, hB9, hT9, hl9⟩ := id hf9'
                  simp only [Value.agg.injEq, Array.mk.injEq, List.cons.injEq, Value.bool.injEq, Value.slice.injEq, and_true] at hv9
                  obtain ⟨rfl, rfl, rfl, rfl⟩ := hv9
                  have hsz := Nat.le_trans HB3.out.size hB'.size
                  have hRa := HRS.out.below hB'
                  have hSa : Ow wc.heap.size w' (.slice a9 rs9.length c9) rs9 := hwf9.fr.ow.mono (Nat.le_trans HB3.out.size hB9)
                  have hzz : WE.z ⟨ng9, a9, rs9.length, c9, rs9⟩ = addF' rows i c := by
                    rw [HAD1.out]
                    exact hwf9.wh.worth
                  have HB9 := hide hB'
                  have HZZ9 := hide (And.intro hzz hl9)
                  clear hB' hR' hP' hn' hd' hzz
                  refine wpList_does rfl (op_appT (i := 82) (j := 95) rfl rfl hRa hO9 hSa (by have := HE.out; omega) hsz) ?_
                  rintro v5 w5 ⟨hR5, hg5, hloc5⟩
                  obtain ⟨cr5, hcr5⟩ := hRa.row
                  have hb5 : Below wc.heap.size wc w5 := (HB3.out.trans (HB9.out.mono HB3.out.size)).trans ((Below.refl _ _).grown hg5 hsz (fun k hk => (hRa.own.lt k hk).1))
                  have hRs := HR3.out.below HB9.out
                  have hRs5 := hRs.keep hg5 hcr5 (by decide) HAP3.out.symm
                  have hap5 : Apt (.slice ra2 (c + 1) rc2) v5 := by
                    intro g h1 h2
                    rcases hloc5 with e | e
                    · exact HAP3.out g h1 (e.symm.trans h2)
                    · rw [e] at h2
                      have := (hRs.own.lt g h1).2
                      have := Option.some.inj h2
                      omega
                  have hz5 : (e2 ++ [(⟨ng9, a9, rs9.length, c9, rs9⟩ : WE)]).map WE.z = gRow (addF' rows i) (c + 1) := by
                    rw [gRow_succ, List.map_append, HZ2.out.1, List.map_cons, List.map_nil, HZZ9.out.1]
                  have hl5 : ∀ e ∈ e2 ++ [(⟨ng9, a9, rs9.length, c9, rs9⟩ : WE)], e.zs.length ≤ 1502 := by
                    intro e he
                    rcases List.mem_append.1 he with he | he
                    · exact HZ2.out.2 e he
                    · obtain rfl := List.mem_singleton.1 he
                      exact HZZ9.out.2
                  generalize he2' : e2 ++ [(⟨ng9, a9, rs9.length, c9, rs9⟩ : WE)] = e2' at *
                  obtain ⟨sa2, sc2, hsv2, _⟩ := Cl.own hR5.own
                  subst hsv2
                  have HFin := hide (And.intro hR5 (And.intro hRs5 (And.intro hap5 (And.intro hz5 (And.intro hl5 hb5)))))
                  clear hR5 hg5 hloc5 hcr5 hb5 hRs hRs5 hap5 hz5 hl5 he2' hRa hSa hO9 hf9 hf9' hwf9 hB9 hT9 hl9 hsz x03 p03 p13 q03 q13 h0l3 hxl3 hyl3
                  go_wp2
                  go_roundw
                  case rel => exact ⟨c + 1, e1', e2', by go_num, by omega, HFin.out.2.1, HZ3.out.1, HZ3.out.2, HFin.out.1, HFin.out.2.2.2.1, HFin.out.2.2.2.2.1, HFin.out.2.2.1, HFin.out.2.2.2.2.2⟩
                  case measure => simp [intOf]; omega
            · have hlc' : decide ((c : Int) < (n : Int)) = false := by simp; omega
              have hcn' : c = n := by omega
              subst hcn'
              clear hR1 hz1 hl1 hR2 hz2 hl2 hap hbx he1 he2
              obtain ⟨vs, hvs, hvr⟩ := HO.out.below HBX.out
              have HV := hide (And.intro hvs hvr)
              have hll : (othR rows bs c j).length = 2 * j := othR_len rows bs c j
              obtain ⟨ll, hll'⟩ : ∃ l, (othR rows bs c j).length = l := ⟨_, rfl⟩
              rw [hll'] at hvs hll ⊢
              have hbl4 := hAl wr (.cells #[.slice ra c rc, .slice sa c sc] 27)
              have hlow := Nat.le_trans HW.out.size HBX.out.size
              have HLL := hide hll'
              have hllb : ll ≤ 40 := by omega
              clear hvr hll' hll
              go_wp2_with (at_builtin; refine wpList_append_own _ rfl (.tmp 97) (.tmp 100) 22 rfl w.heap.size 27 iW (.slice none 0 0) 1 24 Try.underlying22 hiW hzW0 hzW1 hzW2 rfl (by decide) _ _ _ rfl (hvs.alloc _) ⟨wr.heap.size, 0, none⟩ 2 2 [.slice ra c rc, .slice sa c sc] rfl rfl (cells_two_new _ _ _ _) ?c2 ?c3 ?c4 ?c5 ?_)
              case c2 => intro x hx; simp at hx; rcases hx with rfl | rfl <;> rfl
              case c3 => unfold maxLen; omega
              case c4 => omega
              case c5 => simp; omega
              intro v5 w5 hown5 hgrow5 _
              obtain ⟨hv1, hv2⟩ := HV.out
              have hA := OtM.app (K := w.heap.size) (rows := othR rows bs c j) (L := 1502) (z1 := gRow (mulF' rows bs i) c) (z2 := gRow (addF' rows i) c) (hv1.alloc _) (fun i u z a b => by obtain ⟨es, g1, g2⟩ := hv2 i u z a b; exact ⟨es, g1.below hbl4, g2⟩) ⟨(HR1.out.below hbl4).low HW.out.size, HZ1.out.1, HZ1.out.2⟩ ⟨(HR2.out.below hbl4).low HW.out.size, HZ2.out.1, HZ2.out.2⟩ (by rw [HLL.out]; exact hown5) (by rw [HLL.out]; exact hgrow5)
              have hbx : Below w.heap.size w w5 := (HW.out.trans (HBX.out.mono HW.out.size)).trans ((hbl4.mono hlow).trans ((Below.refl _ _).grown hgrow5 (Nat.le_trans hlow hbl4.size) (fun k hk => (hvs.lt k hk).1)))
              have e1' : othR rows bs c j ++ [gRow (mulF' rows bs i) c, gRow (addF' rows i) c] = othR rows bs c (j + 1) := by rw [othR, HLZ.out, ← HIJ.out]
              rw [e1'] at hA
              obtain ⟨oa2, oc2, hov2, _⟩ := hA.isM.parts
              subst hov2
              have HFin := hide (And.intro hA hbx)
              have hwr : IntKind.i64.wrap ((i : Int) - 1) = (i : Int) - 1 := by rw [IntKind.wrap_i64]; omega
              clear hown5 hgrow5 hv1 hv2 hA hbx hvs hbl4 e1'
              go_wp2
              go_roundw
              case rel => exact ⟨j + 1, by have := HIJ.out; simp only [Value.int.injEq, true_and]; omega, by omega, HFin.out.1, HFin.out.2⟩
              case measure => simp [intOf]
    · have hjm : j = m := by omega
      subst hjm
      have hneg : ((j : Int) - 1 - (j : Int)) = -1 := by omega
      rw [hneg]
      have HIo := hide hO.isM
      have hgo : decide ((-1 : Int) ≥ 0) = false := by decide
      have HSo := hide (oth_shaped (bs := bs) HSH.out (by have := HLZ.out; omega))
      have hjr : rows.length = j := HLZ.out
      have K8 := hide (mechelon_any wr _ rows n 1500 (HI.out.below hbw) HSH.out (by decide))
      clear hO hbw
      go_wp2_with fail
      refine K8.out.mono ?_
      rintro e w8 ⟨ho8, hb8⟩
      have hM8 := HIo.out.below hb8
      have hSo := HSo.out
      rw [hjr] at hSo
      have K9 := hide (mechelon_any w8 _ (othR rows bs n j) n 1502 hM8 hSo (by decide))
      have HO8 := hide ho8
      have HB8 := hide hb8
      have HFW := hide (oth_fwd (bs := bs) HRN.out)
      have HBW := hide (oth_bwd (bs := bs) HRN.out)
      rw [hjr] at HFW HBW
      obtain ⟨R8, Q8, hE8, ⟨hex8, he8⟩ | ⟨hal8, rv8, he8, hO8⟩⟩ := ho8
      · subst he8
        clear hE8 hex8 hb8 hM8 hSo K8
        go_wp2_with fail
        refine K9.out.mono ?_
        rintro e' w9 ⟨ho9, hb9⟩
        rcases space_same HO8.out ho9 HFW.out HBW.out with ⟨_, rfl⟩ | ⟨rv, rv', E, h1, _⟩
        · have HB9 := hide (HW.out.trans ((HB8.out.trans (hb9.mono HB8.out.size)).mono HW.out.size))
          have K10 := hide (samerows_any w9 _ _ [] 0 0 (CanM.nil w9 0) (CanM.nil w9 0))
          clear ho9 hb9 K9
          clear HFW HBW HO8 HSo HIo HO HI HSH hm0 hm2 hsub hm20 hm1 hj hlt hneg hgo hjr hn32 hrows iW hiW hzW0 hzW1 hzW2
          generalize (othR rows bs n j).length = lo at *
          go_wp2_with fail
          refine K10.out.mono ?_
          rintro e'' w10 ⟨rfl, hb10⟩
          have HB10 := hide (HB9.out.trans (hb10.mono HB9.out.size))
          clear hb10 K10
          go_wp2
          refine bodyPost_ret (v := _) (by simp [results, Try.results3, go_sem]; try rfl) rfl ⟨rfl, HB10.out⟩
        · exfalso
          simp at h1
      · subst he8
        obtain ⟨ra8, rc8, rfl, _⟩ := hO8.is.parts
        generalize (List.map red (baR R8 Q8 n)).length = l8 at *
        clear hE8 hal8 hO8 hb8 hM8 hSo K8
        go_wp2_with fail
        refine K9.out.mono ?_
        rintro e' w9 ⟨ho9, hb9⟩
        rcases space_same HO8.out ho9 HFW.out HBW.out with ⟨h1, _⟩ | ⟨rv, rv', E, h1, rfl, hO8, hO9⟩
        · exfalso
          simp at h1
        · have hrv : rv = .slice ra8 l8 rc8 := by
            simp only [Ending.returned.injEq, Value.tuple.injEq, Array.mk.injEq, List.cons.injEq, and_true] at h1
            exact h1.symm
          subst hrv
          obtain ⟨ra9, rc9, rfl, _⟩ := hO9.is.parts
          have HB9 := hide (HW.out.trans ((HB8.out.trans (hb9.mono HB8.out.size)).mono HW.out.size))
          have K10 := hide (samerows_any w9 _ _ E _ _ (hO8.can.below hb9) hO9.can)
          clear ho9 hb9 K9 hO8 hO9 h1
          generalize E.length = l9 at *
          clear HFW HBW HO8 HSo HIo HO HI HSH hm0 hm2 hsub hm20 hm1 hj hlt hneg hgo hjr hn32 hrows iW hiW hzW0 hzW1 hzW2
          generalize (othR rows bs n j).length = lo at *
          go_wp2_with fail
          refine K10.out.mono ?_
          rintro e'' w10 ⟨rfl, hb10⟩
          have HB10 := hide (HB9.out.trans (hb10.mono HB9.out.size))
          clear hb10 K10
          go_wp2
          refine bodyPost_ret (v := _) (by simp [results, Try.results3, go_sem]; try rfl) rfl ⟨rfl, HB10.out⟩
end Lm
end Go.Proofs.Ytodgiglhconkoaa

namespace Go.Proofs.Ytodgiglhconkoaa
namespace matrixSpaceLaw
open Go.ChangeShapes Go.WideShapes Go.ChangeAt Go.RowKit
open Go.ChangeMaps (open_string shut_string)
theorem own : ownKnob Try.prog.godebug = none := by kernel_rfl
theorem laidOut : laidOutB Try.prog = true := by kernel_rfl
set_option linter.unusedVariables false in
set_option maxRecDepth 100000 in
theorem lifted (os : Os) (started : os.Started) (H : Type) (enc : TypeId × Value → H) :
    ReturnsInHanded {} Try.checked os 3 .any (Rows.matrixSpaceSpec.pre6 enc Try.prog Try.f3 Rows.matrixSpaceRow.domain false) (Rows.matrixSpaceSpec.post enc Try.prog Try.f3 false true false false) := by
  refine returnsInHanded_of_change_sized (C := Try.checked) own started (by kernel_rfl) Try.func3
    (ChangeSpec.witness6 (enc := enc) (C := Try.checked) false ⟨#[], #[.slice none 0 0, .int .i64 0, .slice none 0 0], []⟩ 8 (by kernel_rfl) (by kernel_rfl) (by kernel_rfl) (by kernel_rfl)) ?_
  intro W base args ds gs before hval0 hW hcnd hsz0 _
  have hval : ∀ (j : Nat) t v, Try.f3.params[j]? = some t → args[j]? = some v → Value.okWide Try.prog W .any base t v := hval0
  have hW' := hW
  obtain ⟨p, q, hA0, hV, rfl, hfz, hnd⟩ := hW
  have hA : DataW.TrodAll enc Try.prog W 0 (fun _ => true) true Try.f3.params.toList args.toList ds p := hA0
  have hsz : (DataW.weightsEach Try.prog (Try.f3.params.toList ++ Rows.matrixSpaceSpec.plain.varTypes Try.prog) (ds ++ gs)).all (· ≤ reachBytes) = true := hsz0
  rw [Try.params3] at hA hval hsz
  obtain ⟨v0, vs0, d0, ds0, p0, q0, hargs, rfl, rfl, h0, r_0⟩ := trodAll_cons hA
  obtain ⟨v1, vs1, d1, ds1, p1, q1, rfl, rfl, rfl, h1, r_1⟩ := trodAll_cons r_0
  obtain ⟨v2, vs2, d2, ds2, p2, q2, rfl, rfl, rfl, h2, r_2⟩ := trodAll_cons r_1
  obtain ⟨rfl, rfl, rfl⟩ := trodAll_nil r_2
  obtain rfl : args = #[v0, v1, v2] := by cases args; simp_all
  obtain ⟨rfl, rfl⟩ := trodVars_none hV
  obtain ⟨a0, len0, cap0, rfl⟩ := okWide_slice Try.underlying22 (hval 0 22 v0 rfl rfl)
  have k0 := h0
  have lt0 : ∀ x ∈ p0, x.block < W.heap.size := by obtain ⟨m, hm⟩ := k0; exact DataW.trod_lt m _ _ _ hm
  obtain ⟨z0, w0, b0⟩ : ∃ ess, Lm.RwM W (.slice a0 len0 cap0) ess ∧ ∀ es ∈ ess, ∀ e ∈ es, e.m ≤ 35184372088832 := by
    obtain ⟨fuel, hf⟩ := h0
    refine Lm.open_rows_s (x := (d0, p0)) (by simpa [Value.cells] using hf) (fun k hk => ?_)
    have := List.all_eq_true.1 hsz k (DataW.weights_mem_each (j := 0) (t := 22) (d := d0) rfl rfl k hk)
    simpa using this
  obtain ⟨a1, rfl, rfl, rfl, w1⟩ := open_int Try.underlying3 (hval 1 3 v1 rfl rfl) h1
  obtain ⟨a2, len2, cap2, rfl⟩ := okWide_slice Try.underlying23 (hval 2 23 v2 rfl rfl)
  have k2 := h2
  have lt2 : ∀ x ∈ p2, x.block < W.heap.size := by obtain ⟨m, hm⟩ := k2; exact DataW.trod_lt m _ _ _ hm
  obtain ⟨z2, w2, b2⟩ : ∃ zs, Lm.Nums W (.slice a2 len2 cap2) zs ∧ ∀ z ∈ zs, -9223372036854775808 ≤ z ∧ z ≤ 9223372036854775807 := by
    obtain ⟨fuel, hf⟩ := h2
    exact Lm.open_nums (x := (d2, p2)) (by simpa [Value.cells] using hf)
  clear hA0 hval0
  refine (Lm.mspace_s W (.slice a0 len0 cap0) (.slice a2 len2 cap2) z0 a1 z2 w0 b0 w2 b2).mono fun e W' ⟨he, bel⟩ => ?_
  subst he
  exact ⟨_, rfl, _, _, _, [], _, [], hW', trodAll_mk1 (shut_bool Try.underlying4 _), (trodAll_cons_mk (Below.trod laidOut (by kernel_rfl) (of_decide_eq_true (by kernel_rfl)) k0 bel lt0) (trodAll_cons_mk (shut_int Try.underlying3 w1) (trodAll_cons_mk (Below.trod laidOut (by kernel_rfl) (of_decide_eq_true (by kernel_rfl)) k2 bel lt2) trodAll_mk0))), rfl, bel.frame _, fun h => by cases h⟩
theorem over : Rows.matrixSpaceRow.holds Try.pinned (OpenSpec.ofChange Rows.matrixSpaceSpec) :=
  OpenClaim.holds_of_wide 3 Try.f3 rfl rfl rfl rfl rfl rfl rfl ⟨rfl, rfl, rfl, rfl, rfl⟩ rfl rfl rfl rfl rfl (by kernel_rfl) Try.func3 (by kernel_rfl)
    (of_decide_eq_true (by kernel_rfl)) (by unfold Func.isWrapper; first | (rw [if_pos (by decide +kernel)]; kernel_rfl) | (rw [if_neg (by decide +kernel)]; exact ⟨rfl, rfl⟩))
    (fun os started H enc _ => lifted os started H enc)
end matrixSpaceLaw
theorem matrixSpace_holds : Rows.MatrixSpaceSaid := matrixSpaceLaw.over
#print axioms matrixSpace_holds
end Go.Proofs.Ytodgiglhconkoaa

