/-
  awake answers true.
-/
import Derived.Test.YthbomfboohjcfaaLits
namespace Go.Proofs.Ythbomfboohjcfaa
namespace Lm
open Go.RowKit

theorem dec_awake : IsDec [52, 50, 57, 52, 57, 54, 55, 50, 57, 54] 4294967296 := by
  refine ⟨?_, by decide, .inr ⟨52, _, rfl, by decide⟩⟩
  intro c hc
  simp at hc
  omega

set_option maxRecDepth 20000 in
set_option maxHeartbeats 1000000 in
theorem awake_any (w : World) : Calls Try.prog 9 #[] w fun e w' => e = .returned (.bool true) ∧ Below w.heap.size w w' := by
  go_enter Try.func9, Try.ntmps9
  go_wp2_with fail
  have s1 := (sl_two w 0 1 (limb_lits (by decide))).below ((Below.refl _ _).alloc (Nat.le_refl _) (.cells #[.int .u32 3] 47))
  have s2 := sl_one (w.alloc (.cells #[.int .u32 0, .int .u32 1] 47)) 3 (limb_lits (by decide))
  have hb0 : Below w.heap.size w ((w.alloc (.cells #[.int .u32 0, .int .u32 1] 47)).alloc (.cells #[.int .u32 3] 47)) := ((Below.refl _ _).alloc (Nat.le_refl _) _).alloc (by simp) _
  rw [World.size_alloc] at s2
  refine (divmod_short _ _ _ _ _ _ _ [0, 1] [3] s1 s2 (by simp) (by decide) (by decide)).mono ?_
  rintro e w1 ⟨v1, v2, rfl, i1, i2, _, hb1⟩
  rw [show val [0, 1] / val [3] = 1431655765 from by decide] at i1
  rw [show val [0, 1] % val [3] = 1 from by decide] at i2
  obtain ⟨b1, o1, p1, rfl, d1, _, _⟩ := is_short i1 (by decide) (by decide)
  obtain ⟨b2, o2, p2, rfl, d2, _, _⟩ := is_short i2 (by decide) (by decide)
  have hb := hb0.trans (hb1.mono hb0.size)
  clear s1 s2 i1 i2 hb0 hb1
  go_wp2_with fail
  have s3 := sl_two w1 0 1 (limb_lits (by decide))
  refine (text_any _ _ _ _ [0, 1] s3 (by simp)).mono ?_
  rintro e w2 ⟨ds, rfl, hd, hb2⟩
  have e2 := isDec_one hd (show IsDec _ (val [0, 1]) from dec_awake)
  subst e2
  have hs : ((strOfNums [52, 50, 57, 52, 57, 54, 55, 50, 57, 54]).toList == [52, 50, 57, 52, 57, 54, 55, 50, 57, 54]) = true := by rw [ByteArray.toList_eq]; decide
  have hb' : Below w.heap.size w w2 := hb.trans ((((Below.refl _ _).alloc (Nat.le_refl _) _).mono hb.size).trans (hb2.mono (by have := hb.size; simp; omega)))
  clear hd hb2 s3
  go_wp2
  go_ret
  exact ⟨rfl, hb'⟩

end Lm
end Go.Proofs.Ythbomfboohjcfaa
