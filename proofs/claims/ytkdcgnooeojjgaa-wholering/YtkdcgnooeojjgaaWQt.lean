/-
  WholeRing: its last row, whatever the order of its operations.
-/
import Derived.Test.YtkdcgnooeojjgaaInv3
import Derived.Test.YtkdcgnooeojjgaaWO1
namespace Go.Proofs.Ytkdcgnooeojjgaa
namespace Lm
open Go Go.RowKit

def rightMost : Code → Option Code
  | .seq a b => match rightMost b with
    | some c => some c
    | none => some (.seq a b)
  | _ => none
noncomputable def ringTail : Code := ((Try.f6.body.bind rightMost).getD .skip)

theorem below_al {w w' : World} (h : Below w.heap.size w w') (o : Obj) : Below w.heap.size w (w'.alloc o) := h.alloc h.size o
theorem below_then {w w' w'' : World} (h : Below w.heap.size w w') (h2 : Below w'.heap.size w' w'') : Below w.heap.size w w'' := h.trans (h2.mono h.size)

def ringDs : List Nat := [31, 32, 33, 34, 35, 36, 37, 38, 39, 40, 41, 42, 43, 44, 45, 46, 47, 48, 49, 50, 51, 52, 53, 54, 55, 56, 57, 58, 59, 60, 61, 62, 63, 64, 65, 66, 67, 68, 69, 70, 71, 72, 73, 74, 75, 76, 77, 78, 79, 80, 81, 82, 83, 84, 85, 86, 87, 88, 89, 90, 91, 92, 93, 94, 95, 96, 97, 98, 99, 100, 101, 102, 103, 104, 105, 106, 107, 108, 109, 110, 111, 112, 113, 114, 115, 116, 117, 118, 119, 120, 121, 6]
def ringPs (zx zy zz : Int) : List Says := [OutW (zx + zy) 4000, IsW zy 1500, IsW zx 1500, OutW (zy + zx) 3001, Eqs (.bool true), Eqs (.bool true), OutW (zx * zy) 4000, IsW zy 1500, IsW zx 1500, OutW (zy * zx) 3000, Eqs (.bool true), Eqs (.bool true), Eqs (.bool true), OutW (zx + zy) 4000, IsW zz 1500, OutW ((zx + zy) + zz) 5501, IsW zx 1500, IsW zy 1500, IsW zz 1500, OutW (zy + zz) 3001, OutW (zx + (zy + zz)) 4502, Eqs (.bool true), Eqs (.bool true), Eqs (.bool true), OutW (zx * zy) 4000, IsW zz 1500, OutW ((zx * zy) * zz) 5500, IsW zx 1500, IsW zy 1500, IsW zz 1500, OutW (zy * zz) 3000, OutW (zx * (zy * zz)) 4500, Eqs (.bool true), Eqs (.bool true), Eqs (.bool true), IsW zx 1500, IsW zy 1500, IsW zz 1500, OutW (zy + zz) 3001, OutW (zx * (zy + zz)) 4501, OutW (zx * zy) 4000, IsW zx 1500, IsW zz 1500, OutW (zx * zz) 3000, OutW ((zx * zy) + (zx * zz)) 7001, Eqs (.bool true), Eqs (.bool true), Eqs (.bool true), IsW zx 1500, IsW zy 1500, OutW (zx - zy) 3001, IsW zx 1500, IsW zy 1500, OutW (-zy) 1500, OutW (zx + (-zy)) 3001, Eqs (.bool true), Eqs (.bool true), Eqs (.bool true), OutW 0 4000, OutW 0 0, Eqs (.bool true), Eqs (.bool true), Eqs (.bool true), OutW (zx * zy) 4000, Eqs (.int .i64 (Int.sign (zx * zy))), IsW zx 1500, Eqs (.int .i64 (Int.sign zx)), IsW zy 1500, Eqs (.int .i64 (Int.sign zy)), Eqs (.int .i64 (IntKind.i64.wrap (Int.sign zx * Int.sign zy))), Eqs (.bool true), Eqs (.bool true), Eqs (.bool true), IsW zx 1500, OutW (-1) 2, OutW (zx * (-1)) 1502, IsW zx 1500, OutW (-zx) 1500, Eqs (.bool true), Eqs (.bool true), Eqs (.bool true), IsW zx 1500, IsW zy 1500, IsW zz 1500, Three zx zy zz 1500, OutW (zx + zy + zz) 400000, OutW (zx + zy) 4000, IsW zz 1500, OutW ((zx + zy) + zz) 5501, Eqs (.bool true), Eqs (.bool true), Eqs (.bool true)]
theorem ringMono (zx zy zz : Int) : Monos (ringPs zx zy zz) := ⟨OutW.mono _ _, IsW.mono _ _, IsW.mono _ _, OutW.mono _ _, Eqs.mono _, Eqs.mono _, OutW.mono _ _, IsW.mono _ _, IsW.mono _ _, OutW.mono _ _, Eqs.mono _, Eqs.mono _, Eqs.mono _, OutW.mono _ _, IsW.mono _ _, OutW.mono _ _, IsW.mono _ _, IsW.mono _ _, IsW.mono _ _, OutW.mono _ _, OutW.mono _ _, Eqs.mono _, Eqs.mono _, Eqs.mono _, OutW.mono _ _, IsW.mono _ _, OutW.mono _ _, IsW.mono _ _, IsW.mono _ _, IsW.mono _ _, OutW.mono _ _, OutW.mono _ _, Eqs.mono _, Eqs.mono _, Eqs.mono _, IsW.mono _ _, IsW.mono _ _, IsW.mono _ _, OutW.mono _ _, OutW.mono _ _, OutW.mono _ _, IsW.mono _ _, IsW.mono _ _, OutW.mono _ _, OutW.mono _ _, Eqs.mono _, Eqs.mono _, Eqs.mono _, IsW.mono _ _, IsW.mono _ _, OutW.mono _ _, IsW.mono _ _, IsW.mono _ _, OutW.mono _ _, OutW.mono _ _, Eqs.mono _, Eqs.mono _, Eqs.mono _, OutW.mono _ _, OutW.mono _ _, Eqs.mono _, Eqs.mono _, Eqs.mono _, OutW.mono _ _, Eqs.mono _, IsW.mono _ _, Eqs.mono _, IsW.mono _ _, Eqs.mono _, Eqs.mono _, Eqs.mono _, Eqs.mono _, Eqs.mono _, IsW.mono _ _, OutW.mono _ _, OutW.mono _ _, IsW.mono _ _, OutW.mono _ _, Eqs.mono _, Eqs.mono _, Eqs.mono _, IsW.mono _ _, IsW.mono _ _, IsW.mono _ _, Three.mono _ _ _ _, OutW.mono _ _, OutW.mono _ _, IsW.mono _ _, OutW.mono _ _, Eqs.mono _, Eqs.mono _, Eqs.mono _, trivial⟩

set_option maxRecDepth 4000 in
set_option maxRecDepth 20000 in
set_option maxHeartbeats 4000000 in
theorem wring_tail (w wz : World) (nx : Bool) (a0 : Option Addr) (n0 c0 : Nat) (xs : List Int) (zx : Int) (ny : Bool) (a1 : Option Addr) (n1 c1 : Nat) (ys : List Int) (zy : Int) (nz : Bool) (a2 : Option Addr) (n2 c2 : Nat) (us : List Int) (zz : Int) (AX : Ag wz nx a0 n0 c0 xs zx) (AY : Ag wz ny a1 n1 c1 ys zy) (AZ : Ag wz nz a2 n2 c2 us zz) (L0 : xs.length ≤ 1500) (L1 : ys.length ≤ 1500) (L2 : us.length ≤ 1500) (HB : Below w.heap.size w wz) (gx gy gz gs gm go : Nat) (ss : Bool) (ps : Option Addr) (qs : Nat) (rs : List Int) (GS : Wh wz ss ps qs rs (zx + zy)) (ls : rs.length ≤ 4000) (sm : Bool) (pm : Option Addr) (qm : Nat) (rm : List Int) (GM : Wh wz sm pm qm rm (zx * zy)) (lm : rm.length ≤ 4000) (so : Bool) (po : Option Addr) (qo : Nat) (ro : List Int) (GO : Wh wz so po qo ro 0) (lo : ro.length ≤ 4000) (bx : Box wz gx nx (.slice a0 n0 c0)) (by' : Box wz gy ny (.slice a1 n1 c1)) (bz : Box wz gz nz (.slice a2 n2 c2)) (bs : Box wz gs ss (.slice ps rs.length qs)) (bm : Box wz gm sm (.slice pm rm.length qm)) (bo : Box wz go so (.slice po ro.length qo)) (a : Act) (hn : a.tmps.size = 122) (hd : a.defers = []) (f3 : a.eval (.tmp 3) = .pointer (some ⟨gx, 0, none⟩)) (f4 : a.eval (.tmp 4) = .pointer (some ⟨gy, 0, none⟩)) (f5 : a.eval (.tmp 5) = .pointer (some ⟨gz, 0, none⟩)) (f7 : a.eval (.tmp 7) = .pointer (some ⟨gs, 0, none⟩)) (f8 : a.eval (.tmp 8) = .pointer (some ⟨gm, 0, none⟩)) (f9 : a.eval (.tmp 9) = .pointer (some ⟨go, 0, none⟩)) :
    Code.wp Try.prog ringTail (bodyPost Try.prog Try.f6 (fun e w' => e = .returned (.bool true) ∧ Below w.heap.size w w')) a wz := by
  have HS : IntKind.i64.wrap (Int.sign zx * Int.sign zy) = Int.sign (zx * zy) := by
    have h1 := sign_three (zx * zy)
    rw [← Int.sign_mul]
    exact wrap_in (by omega) (by omega)
  conv => arg 2; whnf
  refine wp_seq (region_abs ringDs (ringPs zx zy zz) (by kernel_rfl) hn (by decide) (by kernel_rfl) (by kernel_rfl) (ringMono zx zy zz) ?_ ?_)
  · exact ⟨⟨rfl, fun a w hn hB hR hD => op_load_out ((hR 7 rfl).trans f7) (bs.below hB) (GS.below hB) ls⟩,
      ⟨rfl, fun a w hn hB hR hD => op_load_is ((hR 4 rfl).trans f4) (by'.below hB) (AY.below hB) L1⟩,
      ⟨rfl, fun a w hn hB hR hD => op_load_is ((hR 3 rfl).trans f3) (bx.below hB) (AX.below hB) L0⟩,
      ⟨rfl, fun a w hn hB hR hD => op_add (hD 1 rfl) (hD 2 rfl) (by omega) (by omega)⟩,
      ⟨rfl, fun a w hn hB hR hD => op_same (hD 0 rfl) (hD 3 rfl) (Int.add_comm _ _)⟩,
      ⟨rfl, fun a w hn hB hR hD => op_true (hD 4 rfl)⟩,
      ⟨rfl, fun a w hn hB hR hD => ⟨by decide, fun _ => op_load_out ((hR 8 rfl).trans f8) (bm.below hB) (GM.below hB) lm, fun hne => absurd (hD 5 rfl) hne⟩⟩,
      ⟨rfl, fun a w hn hB hR hD => ⟨by decide, fun _ => op_load_is ((hR 4 rfl).trans f4) (by'.below hB) (AY.below hB) L1, fun hne => absurd (hD 5 rfl) hne⟩⟩,
      ⟨rfl, fun a w hn hB hR hD => ⟨by decide, fun _ => op_load_is ((hR 3 rfl).trans f3) (bx.below hB) (AX.below hB) L0, fun hne => absurd (hD 5 rfl) hne⟩⟩,
      ⟨rfl, fun a w hn hB hR hD => ⟨by decide, fun _ => op_mul (hD 7 rfl) (hD 8 rfl) (by omega) (by omega), fun hne => absurd (hD 5 rfl) hne⟩⟩,
      ⟨rfl, fun a w hn hB hR hD => ⟨by decide, fun _ => op_same (hD 6 rfl) (hD 9 rfl) (Int.mul_comm _ _), fun hne => absurd (hD 5 rfl) hne⟩⟩,
      ⟨rfl, fun a w hn hB hR hD => op_pick (hD 5 rfl) (hD 10 rfl)⟩,
      ⟨rfl, fun a w hn hB hR hD => op_true (hD 11 rfl)⟩,
      ⟨rfl, fun a w hn hB hR hD => ⟨by decide, fun _ => op_load_out ((hR 7 rfl).trans f7) (bs.below hB) (GS.below hB) ls, fun hne => absurd (hD 12 rfl) hne⟩⟩,
      ⟨rfl, fun a w hn hB hR hD => ⟨by decide, fun _ => op_load_is ((hR 5 rfl).trans f5) (bz.below hB) (AZ.below hB) L2, fun hne => absurd (hD 12 rfl) hne⟩⟩,
      ⟨rfl, fun a w hn hB hR hD => ⟨by decide, fun _ => op_add (hD 13 rfl).is (hD 14 rfl) (by omega) (by omega), fun hne => absurd (hD 12 rfl) hne⟩⟩,
      ⟨rfl, fun a w hn hB hR hD => ⟨by decide, fun _ => op_load_is ((hR 3 rfl).trans f3) (bx.below hB) (AX.below hB) L0, fun hne => absurd (hD 12 rfl) hne⟩⟩,
      ⟨rfl, fun a w hn hB hR hD => ⟨by decide, fun _ => op_load_is ((hR 4 rfl).trans f4) (by'.below hB) (AY.below hB) L1, fun hne => absurd (hD 12 rfl) hne⟩⟩,
      ⟨rfl, fun a w hn hB hR hD => ⟨by decide, fun _ => op_load_is ((hR 5 rfl).trans f5) (bz.below hB) (AZ.below hB) L2, fun hne => absurd (hD 12 rfl) hne⟩⟩,
      ⟨rfl, fun a w hn hB hR hD => ⟨by decide, fun _ => op_add (hD 17 rfl) (hD 18 rfl) (by omega) (by omega), fun hne => absurd (hD 12 rfl) hne⟩⟩,
      ⟨rfl, fun a w hn hB hR hD => ⟨by decide, fun _ => op_add (hD 16 rfl) (hD 19 rfl).is (by omega) (by omega), fun hne => absurd (hD 12 rfl) hne⟩⟩,
      ⟨rfl, fun a w hn hB hR hD => ⟨by decide, fun _ => op_same (hD 15 rfl) (hD 20 rfl) (Int.add_assoc _ _ _), fun hne => absurd (hD 12 rfl) hne⟩⟩,
      ⟨rfl, fun a w hn hB hR hD => op_pick (hD 12 rfl) (hD 21 rfl)⟩,
      ⟨rfl, fun a w hn hB hR hD => op_true (hD 22 rfl)⟩,
      ⟨rfl, fun a w hn hB hR hD => ⟨by decide, fun _ => op_load_out ((hR 8 rfl).trans f8) (bm.below hB) (GM.below hB) lm, fun hne => absurd (hD 23 rfl) hne⟩⟩,
      ⟨rfl, fun a w hn hB hR hD => ⟨by decide, fun _ => op_load_is ((hR 5 rfl).trans f5) (bz.below hB) (AZ.below hB) L2, fun hne => absurd (hD 23 rfl) hne⟩⟩,
      ⟨rfl, fun a w hn hB hR hD => ⟨by decide, fun _ => op_mul (hD 24 rfl).is (hD 25 rfl) (by omega) (by omega), fun hne => absurd (hD 23 rfl) hne⟩⟩,
      ⟨rfl, fun a w hn hB hR hD => ⟨by decide, fun _ => op_load_is ((hR 3 rfl).trans f3) (bx.below hB) (AX.below hB) L0, fun hne => absurd (hD 23 rfl) hne⟩⟩,
      ⟨rfl, fun a w hn hB hR hD => ⟨by decide, fun _ => op_load_is ((hR 4 rfl).trans f4) (by'.below hB) (AY.below hB) L1, fun hne => absurd (hD 23 rfl) hne⟩⟩,
      ⟨rfl, fun a w hn hB hR hD => ⟨by decide, fun _ => op_load_is ((hR 5 rfl).trans f5) (bz.below hB) (AZ.below hB) L2, fun hne => absurd (hD 23 rfl) hne⟩⟩,
      ⟨rfl, fun a w hn hB hR hD => ⟨by decide, fun _ => op_mul (hD 28 rfl) (hD 29 rfl) (by omega) (by omega), fun hne => absurd (hD 23 rfl) hne⟩⟩,
      ⟨rfl, fun a w hn hB hR hD => ⟨by decide, fun _ => op_mul (hD 27 rfl) (hD 30 rfl).is (by omega) (by omega), fun hne => absurd (hD 23 rfl) hne⟩⟩,
      ⟨rfl, fun a w hn hB hR hD => ⟨by decide, fun _ => op_same (hD 26 rfl) (hD 31 rfl) (Int.mul_assoc _ _ _), fun hne => absurd (hD 23 rfl) hne⟩⟩,
      ⟨rfl, fun a w hn hB hR hD => op_pick (hD 23 rfl) (hD 32 rfl)⟩,
      ⟨rfl, fun a w hn hB hR hD => op_true (hD 33 rfl)⟩,
      ⟨rfl, fun a w hn hB hR hD => ⟨by decide, fun _ => op_load_is ((hR 3 rfl).trans f3) (bx.below hB) (AX.below hB) L0, fun hne => absurd (hD 34 rfl) hne⟩⟩,
      ⟨rfl, fun a w hn hB hR hD => ⟨by decide, fun _ => op_load_is ((hR 4 rfl).trans f4) (by'.below hB) (AY.below hB) L1, fun hne => absurd (hD 34 rfl) hne⟩⟩,
      ⟨rfl, fun a w hn hB hR hD => ⟨by decide, fun _ => op_load_is ((hR 5 rfl).trans f5) (bz.below hB) (AZ.below hB) L2, fun hne => absurd (hD 34 rfl) hne⟩⟩,
      ⟨rfl, fun a w hn hB hR hD => ⟨by decide, fun _ => op_add (hD 36 rfl) (hD 37 rfl) (by omega) (by omega), fun hne => absurd (hD 34 rfl) hne⟩⟩,
      ⟨rfl, fun a w hn hB hR hD => ⟨by decide, fun _ => op_mul (hD 35 rfl) (hD 38 rfl).is (by omega) (by omega), fun hne => absurd (hD 34 rfl) hne⟩⟩,
      ⟨rfl, fun a w hn hB hR hD => ⟨by decide, fun _ => op_load_out ((hR 8 rfl).trans f8) (bm.below hB) (GM.below hB) lm, fun hne => absurd (hD 34 rfl) hne⟩⟩,
      ⟨rfl, fun a w hn hB hR hD => ⟨by decide, fun _ => op_load_is ((hR 3 rfl).trans f3) (bx.below hB) (AX.below hB) L0, fun hne => absurd (hD 34 rfl) hne⟩⟩,
      ⟨rfl, fun a w hn hB hR hD => ⟨by decide, fun _ => op_load_is ((hR 5 rfl).trans f5) (bz.below hB) (AZ.below hB) L2, fun hne => absurd (hD 34 rfl) hne⟩⟩,
      ⟨rfl, fun a w hn hB hR hD => ⟨by decide, fun _ => op_mul (hD 41 rfl) (hD 42 rfl) (by omega) (by omega), fun hne => absurd (hD 34 rfl) hne⟩⟩,
      ⟨rfl, fun a w hn hB hR hD => ⟨by decide, fun _ => op_add (hD 40 rfl).is (hD 43 rfl).is (by omega) (by omega), fun hne => absurd (hD 34 rfl) hne⟩⟩,
      ⟨rfl, fun a w hn hB hR hD => ⟨by decide, fun _ => op_same (hD 39 rfl) (hD 44 rfl) (Int.mul_add _ _ _), fun hne => absurd (hD 34 rfl) hne⟩⟩,
      ⟨rfl, fun a w hn hB hR hD => op_pick (hD 34 rfl) (hD 45 rfl)⟩,
      ⟨rfl, fun a w hn hB hR hD => op_true (hD 46 rfl)⟩,
      ⟨rfl, fun a w hn hB hR hD => ⟨by decide, fun _ => op_load_is ((hR 3 rfl).trans f3) (bx.below hB) (AX.below hB) L0, fun hne => absurd (hD 47 rfl) hne⟩⟩,
      ⟨rfl, fun a w hn hB hR hD => ⟨by decide, fun _ => op_load_is ((hR 4 rfl).trans f4) (by'.below hB) (AY.below hB) L1, fun hne => absurd (hD 47 rfl) hne⟩⟩,
      ⟨rfl, fun a w hn hB hR hD => ⟨by decide, fun _ => op_sub (hD 48 rfl) (hD 49 rfl) (by omega) (by omega), fun hne => absurd (hD 47 rfl) hne⟩⟩,
      ⟨rfl, fun a w hn hB hR hD => ⟨by decide, fun _ => op_load_is ((hR 3 rfl).trans f3) (bx.below hB) (AX.below hB) L0, fun hne => absurd (hD 47 rfl) hne⟩⟩,
      ⟨rfl, fun a w hn hB hR hD => ⟨by decide, fun _ => op_load_is ((hR 4 rfl).trans f4) (by'.below hB) (AY.below hB) L1, fun hne => absurd (hD 47 rfl) hne⟩⟩,
      ⟨rfl, fun a w hn hB hR hD => ⟨by decide, fun _ => op_neg (hD 52 rfl) (by omega), fun hne => absurd (hD 47 rfl) hne⟩⟩,
      ⟨rfl, fun a w hn hB hR hD => ⟨by decide, fun _ => op_add (hD 51 rfl) (hD 53 rfl).is (by omega) (by omega), fun hne => absurd (hD 47 rfl) hne⟩⟩,
      ⟨rfl, fun a w hn hB hR hD => ⟨by decide, fun _ => op_same (hD 50 rfl) (hD 54 rfl) (Int.sub_eq_add_neg), fun hne => absurd (hD 47 rfl) hne⟩⟩,
      ⟨rfl, fun a w hn hB hR hD => op_pick (hD 47 rfl) (hD 55 rfl)⟩,
      ⟨rfl, fun a w hn hB hR hD => op_true (hD 56 rfl)⟩,
      ⟨rfl, fun a w hn hB hR hD => ⟨by decide, fun _ => op_load_out ((hR 9 rfl).trans f9) (bo.below hB) (GO.below hB) lo, fun hne => absurd (hD 57 rfl) hne⟩⟩,
      ⟨rfl, fun a w hn hB hR hD => ⟨by decide, fun _ => op_zero, fun hne => absurd (hD 57 rfl) hne⟩⟩,
      ⟨rfl, fun a w hn hB hR hD => ⟨by decide, fun _ => op_same (hD 58 rfl) (hD 59 rfl) (rfl), fun hne => absurd (hD 57 rfl) hne⟩⟩,
      ⟨rfl, fun a w hn hB hR hD => op_pick (hD 57 rfl) (hD 60 rfl)⟩,
      ⟨rfl, fun a w hn hB hR hD => op_true (hD 61 rfl)⟩,
      ⟨rfl, fun a w hn hB hR hD => ⟨by decide, fun _ => op_load_out ((hR 8 rfl).trans f8) (bm.below hB) (GM.below hB) lm, fun hne => absurd (hD 62 rfl) hne⟩⟩,
      ⟨rfl, fun a w hn hB hR hD => ⟨by decide, fun _ => op_sign (hD 63 rfl).is (by omega), fun hne => absurd (hD 62 rfl) hne⟩⟩,
      ⟨rfl, fun a w hn hB hR hD => ⟨by decide, fun _ => op_load_is ((hR 3 rfl).trans f3) (bx.below hB) (AX.below hB) L0, fun hne => absurd (hD 62 rfl) hne⟩⟩,
      ⟨rfl, fun a w hn hB hR hD => ⟨by decide, fun _ => op_sign (hD 65 rfl) (by omega), fun hne => absurd (hD 62 rfl) hne⟩⟩,
      ⟨rfl, fun a w hn hB hR hD => ⟨by decide, fun _ => op_load_is ((hR 4 rfl).trans f4) (by'.below hB) (AY.below hB) L1, fun hne => absurd (hD 62 rfl) hne⟩⟩,
      ⟨rfl, fun a w hn hB hR hD => ⟨by decide, fun _ => op_sign (hD 67 rfl) (by omega), fun hne => absurd (hD 62 rfl) hne⟩⟩,
      ⟨rfl, fun a w hn hB hR hD => ⟨by decide, fun _ => op_times (hD 66 rfl) (hD 68 rfl), fun hne => absurd (hD 62 rfl) hne⟩⟩,
      ⟨rfl, fun a w hn hB hR hD => ⟨by decide, fun _ => op_eql (hD 64 rfl) (hD 69 rfl) HS.symm, fun hne => absurd (hD 62 rfl) hne⟩⟩,
      ⟨rfl, fun a w hn hB hR hD => op_pick (hD 62 rfl) (hD 70 rfl)⟩,
      ⟨rfl, fun a w hn hB hR hD => op_true (hD 71 rfl)⟩,
      ⟨rfl, fun a w hn hB hR hD => ⟨by decide, fun _ => op_load_is ((hR 3 rfl).trans f3) (bx.below hB) (AX.below hB) L0, fun hne => absurd (hD 72 rfl) hne⟩⟩,
      ⟨rfl, fun a w hn hB hR hD => ⟨by decide, fun _ => op_of (by omega) (by omega), fun hne => absurd (hD 72 rfl) hne⟩⟩,
      ⟨rfl, fun a w hn hB hR hD => ⟨by decide, fun _ => op_mul (hD 73 rfl) (hD 74 rfl).is (by omega) (by omega), fun hne => absurd (hD 72 rfl) hne⟩⟩,
      ⟨rfl, fun a w hn hB hR hD => ⟨by decide, fun _ => op_load_is ((hR 3 rfl).trans f3) (bx.below hB) (AX.below hB) L0, fun hne => absurd (hD 72 rfl) hne⟩⟩,
      ⟨rfl, fun a w hn hB hR hD => ⟨by decide, fun _ => op_neg (hD 76 rfl) (by omega), fun hne => absurd (hD 72 rfl) hne⟩⟩,
      ⟨rfl, fun a w hn hB hR hD => ⟨by decide, fun _ => op_same (hD 75 rfl) (hD 77 rfl) (by rw [Int.mul_neg, Int.mul_one]), fun hne => absurd (hD 72 rfl) hne⟩⟩,
      ⟨rfl, fun a w hn hB hR hD => op_pick (hD 72 rfl) (hD 78 rfl)⟩,
      ⟨rfl, fun a w hn hB hR hD => op_true (hD 79 rfl)⟩,
      ⟨rfl, fun a w hn hB hR hD => ⟨by decide, fun _ => op_load_is ((hR 3 rfl).trans f3) (bx.below hB) (AX.below hB) L0, fun hne => absurd (hD 80 rfl) hne⟩⟩,
      ⟨rfl, fun a w hn hB hR hD => ⟨by decide, fun _ => op_load_is ((hR 4 rfl).trans f4) (by'.below hB) (AY.below hB) L1, fun hne => absurd (hD 80 rfl) hne⟩⟩,
      ⟨rfl, fun a w hn hB hR hD => ⟨by decide, fun _ => op_load_is ((hR 5 rfl).trans f5) (bz.below hB) (AZ.below hB) L2, fun hne => absurd (hD 80 rfl) hne⟩⟩,
      ⟨rfl, fun a w hn hB hR hD => ⟨by decide, fun _ => op_three (hD 81 rfl) (hD 82 rfl) (hD 83 rfl), fun hne => absurd (hD 80 rfl) hne⟩⟩,
      ⟨rfl, fun a w hn hB hR hD => ⟨by decide, fun _ => op_sum3 (hD 84 rfl) (by omega), fun hne => absurd (hD 80 rfl) hne⟩⟩,
      ⟨rfl, fun a w hn hB hR hD => ⟨by decide, fun _ => op_load_out ((hR 7 rfl).trans f7) (bs.below hB) (GS.below hB) ls, fun hne => absurd (hD 80 rfl) hne⟩⟩,
      ⟨rfl, fun a w hn hB hR hD => ⟨by decide, fun _ => op_load_is ((hR 5 rfl).trans f5) (bz.below hB) (AZ.below hB) L2, fun hne => absurd (hD 80 rfl) hne⟩⟩,
      ⟨rfl, fun a w hn hB hR hD => ⟨by decide, fun _ => op_add (hD 86 rfl).is (hD 87 rfl) (by omega) (by omega), fun hne => absurd (hD 80 rfl) hne⟩⟩,
      ⟨rfl, fun a w hn hB hR hD => ⟨by decide, fun _ => op_same (hD 85 rfl) (hD 88 rfl) (rfl), fun hne => absurd (hD 80 rfl) hne⟩⟩,
      ⟨rfl, fun a w hn hB hR hD => op_pick (hD 80 rfl) (hD 89 rfl)⟩,
      ⟨rfl, fun a w hn hB hR hD => op_assign (hD 90 rfl)⟩, trivial⟩
  · intro a' w' hn' hd' hB hR hP
    have h6 : a'.eval (.tmp 6) = .bool true := hP 91 (by decide)
    refine wp_ret (bodyPost_ret (v := .bool true) ?_ (hd'.trans hd) ⟨rfl, HB.trans (hB.mono HB.size)⟩)
    have h6' : a'.tmps.getD 6 undef = .bool true := h6
    simp [results, Try.results6, go_sem]
    simpa using h6'

end Lm
end Go.Proofs.Ytkdcgnooeojjgaa
