/-
  The given statement on GlyphAgain, for every input: the call answers true, and each argument reads behind it as it read before; and its card. Its condition: the two tables of unicode/utf8 are laid as the row lists them; the card ties that to the program's text. Beside it: What the library's strings.Clone does, at this program. The scanner goes past a name. The scanner goes past a number. The scanner goes past a sign. Tokens: what a text's glyphs make. No program is named here. Tokens of codes: what a text's codes make, without places. No program is named here. Tokens that are written anew, and blanks and comments that are put between tokens. No program is named here. What the library's utf8.DecodeRuneInString does, at this program. The glyphs of a text up to its first byte that is part of none: the walk. The scanner goes past a token. The scanner goes past a token: the walk. Tokens in memory, and the scanner on its way. What Scan answers, of any text: the walk. The bytes of a code point that stands in a text are those that stand there. What every program answers that is one: Scan of one small text. Tokens in memory held against one another. Any text's codes, and what Scan answers by them. GlyphSigns answers true, whatever text it is handed: the walk. What the library's strings.Builder does, at this program. Join, the program's and the document's, of any tokens. GlyphAgain answers true, whatever it is handed: the walk.
-/
import Derived.Shelf.Lay
import Derived.Shelf.Strconv.Clone
import Derived.Laws.Concat
import Derived.Shelf.Unicode.DecodeAny
import Derived.Lib.LaidU8
import Derived.Test.YtgfglefgpgckiaaDoorProg
import Derived.Lib.OthersKept
import Derived.Laws.RangeAny
import Derived.Deep.RegionLaw
import Derived.Deep.AppendLies
import Derived.SizedLaws
import Derived.Shelf.Strings.BuilderK
import Derived.Test.YtgfglefgpgckiaaDoorRows
import Derived.Test.YtgfglefgpgckiaaDoorCards
import Derived.Test.YtgfglefgpgckiaaDoorTie
import Derived.ProofKit
import Derived.OpenShut
import Derived.ShutString
import Derived.ChangeOld
import Derived.Lib.SmallJoins
import Derived.Lib.LaidIn
import Derived.Deep.DeepHandedRow
import Derived.Test.YtgfglefgpgckiaaDoorGLaLawZ0
namespace Go.Proofs
open Go.Shelf
shelf_lay LaysM.n316 Nm 316 at Tryd as Tryd.lays316
namespace YtgfglefgpgckiaaDoor
namespace Lm
open Go Go.RowKit
theorem clone_lite (w : World) (s : ByteArray) (h : s.size ≤ 281474976710656) :
    Calls Tryd.prog 73 #[.string s] w fun e w' => e = .returned (.string s) ∧ Below w.heap.size w w' := Any.stringslite_Clone Tryd.lays316 s w h
theorem sclone_any (w : World) (s : ByteArray) (h : s.size ≤ 281474976710656) :
    Calls Tryd.prog 66 #[.string s] w fun e w' => e = .returned (.string s) ∧ Below w.heap.size w w' := by
  go_enter Tryd.func66, Tryd.ntmps66
  go_wp2_with fail
  refine (clone_lite _ _ h).mono ?_
  rintro e w' ⟨rfl, hb⟩
  go_wp2
  go_ret
  exact ⟨rfl, hb⟩
end Lm
end YtgfglefgpgckiaaDoor
end Go.Proofs

namespace Go.Proofs.YtgfglefgpgckiaaDoor
namespace Lm
open Go Go.RowKit
theorem nums_new (w : World) (zs : List Int) (hl : zs.length ≤ 100) (e : TypeId) : Nums (w.alloc (.cells (zs.map (Value.int .i64)).toArray e)) (.slice (some ⟨w.heap.size, 0, none⟩) zs.length zs.length) zs := by
  refine ⟨_, _, rfl, Nat.le_refl _, by omega, by simp, .inr ⟨w.heap.size, 0, rfl, by simp [World.size_alloc], fun j u hu => ?_⟩⟩
  rw [cell_of_row _ w.heap.size _ _ _ _ (heap_alloc_new w _), Nat.zero_add]
  simpa using hu
def tok0 : Value := .agg #[.int .i64 0, .string ⟨#[]⟩, .int .i64 0, .int .i64 0, .int .i64 0, .int .i64 0]
def Tk0B (w : World) (f : Nat) : Prop := w.heap[f]? = some (.cells #[.int .i64 0, .string ⟨#[]⟩, .int .i64 0, .int .i64 0, .int .i64 0, .int .i64 0] 35 (0, 0))
theorem Tk0B.tq {w w' : World} {f q : Nat} (h : Tk0B w f) (ht : Tq w w' q) (hn : f ≠ q) : Tk0B w' f := (ht.other f (lt_of_heap h) hn).trans h
theorem Tk0B.below {w w' : World} {f : Nat} (h : Tk0B w f) (hb : Below w.heap.size w w') : Tk0B w' f := (hb.block f (lt_of_heap h)).trans h
structure Tk0C (w : World) (f : Nat) : Prop where
  hf : f < w.heap.size
  t0 : w.cell? ⟨f, 0, none⟩ = some (.int .i64 0)
  t1 : w.cell? ⟨f, 1, none⟩ = some (.string ⟨#[]⟩)
  t2 : w.cell? ⟨f, 2, none⟩ = some (.int .i64 0)
  t3 : w.cell? ⟨f, 3, none⟩ = some (.int .i64 0)
  t4 : w.cell? ⟨f, 4, none⟩ = some (.int .i64 0)
  t5 : w.cell? ⟨f, 5, none⟩ = some (.int .i64 0)
  f0 : w.frozen? ⟨f, 0, none⟩ = false
  f1 : w.frozen? ⟨f, 1, none⟩ = false
  f2 : w.frozen? ⟨f, 2, none⟩ = false
  f3 : w.frozen? ⟨f, 3, none⟩ = false
  f4 : w.frozen? ⟨f, 4, none⟩ = false
  f5 : w.frozen? ⟨f, 5, none⟩ = false
theorem Tk0B.cells {w : World} {f : Nat} (h : Tk0B w f) : Tk0C w f := by
  exact ⟨lt_of_heap h, by rw [cell_of_row w f 0 _ _ _ h]; rfl, by rw [cell_of_row w f 1 _ _ _ h]; rfl, by rw [cell_of_row w f 2 _ _ _ h]; rfl, by rw [cell_of_row w f 3 _ _ _ h]; rfl, by rw [cell_of_row w f 4 _ _ _ h]; rfl, by rw [cell_of_row w f 5 _ _ _ h]; rfl, frozen_of_row w f 0 _ _ h, frozen_of_row w f 1 _ _ h, frozen_of_row w f 2 _ _ h, frozen_of_row w f 3 _ _ h, frozen_of_row w f 4 _ _ h, frozen_of_row w f 5 _ _ h⟩
set_option maxRecDepth 20000 in
set_option maxHeartbeats 1000000 in
theorem name_any (w : World) (q : Nat) (s : ByteArray) (v : Value) (gs : List Gl) (i : Nat) (e : Pl) (h : Scn w q s v gs i e) (hn : gs.length ≤ 100000) (hQ : Snd s pl0 gs e) (hs : s.size ≤ 100000) :
    Calls Tryd.prog 50 #[.pointer (some ⟨q, 0, none⟩)] w fun r w' => ∃ j, i ≤ j ∧ gs.drop j = (gs.drop i).dropWhile (inC [2, 3, 4]) ∧ Scn w' q s v gs j e ∧ Tq w w' q ∧ ((16 < j - i ∧ r = .returned (.tuple #[tok0, .int .i64 42])) ∨ (j - i ≤ 16 ∧ r = .returned (.tuple #[.agg #[.int .i64 1, .string (s.extract (plf (gs.drop i) e).b (plf (gs.drop j) e).b), .int .i64 0, .int .i64 0, .int .i64 0, .int .i64 0], .int .i64 0]))) := by
  have H := hide h
  have hq := lt_of_heap h.blk
  clear h
  unfold tok0
  have hb0 : Below w.heap.size w ((w.alloc (.cells #[.int .i64 0, .string ⟨#[]⟩, .int .i64 0, .int .i64 0, .int .i64 0, .int .i64 0] 35)).alloc (.cells #[.int .i64 2, .int .i64 3, .int .i64 4] 3)) := below_two _ _ _
  have ht0 : Tk0B ((w.alloc (.cells #[.int .i64 0, .string ⟨#[]⟩, .int .i64 0, .int .i64 0, .int .i64 0, .int .i64 0] 35)).alloc (.cells #[.int .i64 2, .int .i64 3, .int .i64 4] 3)) w.heap.size := Tk0B.below (heap_alloc_new w _) ((Below.refl _ _).alloc (Nat.le_refl _) _)
  have hN := nums_new (w.alloc (.cells #[.int .i64 0, .string ⟨#[]⟩, .int .i64 0, .int .i64 0, .int .i64 0, .int .i64 0] 35)) [2, 3, 4] (by simp) 3
  simp only [World.size_alloc, List.map, List.length] at hN
  go_enter Tryd.func50, Tryd.ntmps50
  go_wp2_with fail
  refine (run_any _ q s v gs i e (H.out.below hb0) hn _ _ _ [2, 3, 4] hN (by rintro b off n c hv; simp only [Value.slice.injEq, Option.some.injEq, Addr.mk.injEq] at hv; omega) hQ hs).mono ?_
  rintro r w2 ⟨j, hij, hdj, rfl, hS, hT⟩
  have HS := hide hS
  have HT := hide ((Tq.of_below hb0).trans hT)
  have HT0 := hide (ht0.tq hT (by omega))
  clear hS hT hb0 ht0 hN
  have HDJ := hide hdj
  clear hdj
  generalize hf : w.heap.size = f at *
  replace hf : w.heap.size ≤ f := by omega
  have hqf : q ≠ f := by omega
  clear hq
  by_cases hlong : 16 < j - i
  · obtain ⟨hfl, t0, t1, t2, t3, t4, t5, f0, f1, f2, f3, f4, f5⟩ := HT0.out.cells
    have hl' : (16 : Int) < ((j - i : Nat) : Int) := by omega
    go_wp2
    refine bodyPost_ret (v := _) (by simp [results, Tryd.results50, go_sem, t0, t1, t2, t3, t4, t5]; try rfl) rfl ⟨j, hij, HDJ.out, ?_, ?_, .inl ⟨hlong, rfl⟩⟩
    · exact H.out.of_tq (HT.out.setNew hf 0 _ |>.setNew hf 1 _ |>.setNew hf 2 _ |>.setNew hf 3 _ |>.setNew hf 4 _ |>.setNew hf 5 _) ((six_other _ _ _ hqf _ _ _ _ _ _).trans HS.out.blk) HS.out.le
    · exact HT.out.setNew hf 0 _ |>.setNew hf 1 _ |>.setNew hf 2 _ |>.setNew hf 3 _ |>.setNew hf 4 _ |>.setNew hf 5 _
  · have hl' : decide ((16 : Int) < ((j - i : Nat) : Int)) = false := by simp; omega
    go_wp2_with fail
    refine (sclone_any _ _ (by simp; omega)).mono ?_
    rintro r w3 ⟨rfl, hb3⟩
    replace HT0 := hide (HT0.out.below hb3)
    replace HT := hide (HT.out.trans (.of_below hb3))
    replace HS := hide (HS.out.below hb3)
    clear hb3
    obtain ⟨hfl, t0, t1, t2, t3, t4, t5, f0, f1, f2, f3, f4, f5⟩ := HT0.out.cells
    go_wp2
    refine bodyPost_ret (v := _) (by simp [results, Tryd.results50, go_sem, t0, t1, t2, t3, t4, t5]; try rfl) rfl ⟨j, hij, HDJ.out, ?_, ?_, .inr ⟨by omega, rfl⟩⟩
    · exact H.out.of_tq (HT.out.setNew hf 0 _ |>.setNew hf 1 _ |>.setNew hf 2 _ |>.setNew hf 3 _ |>.setNew hf 4 _ |>.setNew hf 5 _) ((six_other _ _ _ hqf _ _ _ _ _ _).trans HS.out.blk) HS.out.le
    · exact HT.out.setNew hf 0 _ |>.setNew hf 1 _ |>.setNew hf 2 _ |>.setNew hf 3 _ |>.setNew hf 4 _ |>.setNew hf 5 _
end Lm
end Go.Proofs.YtgfglefgpgckiaaDoor

namespace Go.Proofs.YtgfglefgpgckiaaDoor
namespace Lm
open Go Go.RowKit
open Dm (Err Fine)
set_option maxRecDepth 20000 in
set_option maxHeartbeats 1000000 in
theorem number_any (w : World) (q : Nat) (s : ByteArray) (v : Value) (gs : List Gl) (i : Nat) (e : Pl) (h : Scn w q s v gs i e) (hn : gs.length ≤ 100000) (hQ : Snd s pl0 gs e) (hs : s.size ≤ 4096) (hne : (plf (gs.drop i) e).b < (plf ((gs.drop i).dropWhile (inC [3])) e).b) :
    Calls Tryd.prog 51 #[.pointer (some ⟨q, 0, none⟩)] w fun r w' => ∃ j, i ≤ j ∧ gs.drop j = (gs.drop i).dropWhile (inC [3]) ∧ Scn w' q s v gs j e ∧ Tq w w' q ∧ ∃ n ds, IsLen (dval (bytesOf (s.extract (plf (gs.drop i) e).b (plf (gs.drop j) e).b))) n ∧ IsDec ds (dval (bytesOf (s.extract (plf (gs.drop i) e).b (plf (gs.drop j) e).b))) ∧ ((32 < n ∧ r = .returned (.tuple #[tok0, .int .i64 2])) ∨ (n ≤ 32 ∧ r = .returned (.tuple #[.agg #[.int .i64 2, .string (strOfNums ds), .int .i64 0, .int .i64 0, .int .i64 0, .int .i64 0], .int .i64 0]))) := by
  have H := hide h
  have hq := lt_of_heap h.blk
  have hD := hQ.drop pl0_ok (Nat.zero_le _) i h.le
  have hG := hD.1.digits hD.2.1 hD.2.2.2.1
  have HF : Hid (Fine (s.extract (plf (gs.drop i) e).b (plf ((gs.drop i).dropWhile (inC [3])) e).b)) := by
    refine ⟨?_, ?_, hG.1⟩
    · rw [ByteArray.size_extract]; omega
    · rw [ByteArray.size_extract]; omega
  clear h hD hG hne
  unfold tok0
  have hb0 : Below w.heap.size w ((w.alloc (.cells #[.int .i64 0, .string ⟨#[]⟩, .int .i64 0, .int .i64 0, .int .i64 0, .int .i64 0] 35)).alloc (.cells #[.int .i64 3] 3)) := below_two _ _ _
  have ht0 : Tk0B ((w.alloc (.cells #[.int .i64 0, .string ⟨#[]⟩, .int .i64 0, .int .i64 0, .int .i64 0, .int .i64 0] 35)).alloc (.cells #[.int .i64 3] 3)) w.heap.size := Tk0B.below (heap_alloc_new w _) ((Below.refl _ _).alloc (Nat.le_refl _) _)
  have hN := nums_new (w.alloc (.cells #[.int .i64 0, .string ⟨#[]⟩, .int .i64 0, .int .i64 0, .int .i64 0, .int .i64 0] 35)) [3] (by simp) 3
  simp only [World.size_alloc, List.map, List.length] at hN
  go_enter Tryd.func51, Tryd.ntmps51
  go_wp2_with fail
  refine (run_any _ q s v gs i e (H.out.below hb0) hn _ _ _ [3] hN (by rintro b off n c hv; simp only [Value.slice.injEq, Option.some.injEq, Addr.mk.injEq] at hv; omega) hQ (by omega)).mono ?_
  rintro r w2 ⟨j, hij, hdj, rfl, hS, hT⟩
  have HS := hide hS
  have HT := hide ((Tq.of_below hb0).trans hT)
  have HT0 := hide (ht0.tq hT (by omega))
  clear hS hT hb0 ht0 hN
  rw [← hdj] at HF
  have HDJ := hide hdj
  clear hdj
  generalize htx : s.extract (plf (gs.drop i) e).b (plf (gs.drop j) e).b = t at HF ⊢
  have HTX := hide htx
  clear htx
  generalize hf : w.heap.size = f at *
  replace hf : w.heap.size ≤ f := by omega
  have hqf : q ≠ f := by omega
  clear hq
  go_wp2_with fail
  refine (parse_e _ _).mono ?_
  rintro r w3 ⟨hr, hb3⟩
  replace HT0 := hide (HT0.out.below hb3)
  replace HT := hide (HT.out.trans (.of_below hb3))
  replace HS := hide (HS.out.below hb3)
  clear hb3
  rcases hr with ⟨k, hk, rfl⟩ | ⟨_, u, rfl, rs, hO, hC, hV⟩
  · exfalso
    obtain ⟨x1, x2, x3⟩ := HF.out
    rcases hk with hk | hk
    · omega
    · exact hk.2.2 ⟨x1, x3⟩
  obtain ⟨ao, cap, rfl, c1, c2, c3, c4⟩ := hO.sl
  have HO := hide hO
  have HC := hide (And.intro hC hV)
  have hlen : rs.length ≤ 1000000 := by
    have h1 := dval_bounds HF.out.2.2
    rw [bytesOf_length, ← hV] at h1
    have h2 := p10_mono (m := t.size) (n := 5120) HF.out.2.1
    have h3 := gp10_le_pw 5120
    have h4 := canon_len hC (m := 5120) (by omega)
    omega
  clear hO hC hV c4
  by_cases hbig : 32 < rs.length
  · obtain ⟨DS, hds⟩ := gdec_of HF.out.2.2
    have HDS := hide hds
    clear hds
    obtain ⟨hfl, t0, t1, t2, t3, t4, t5, f0, f1, f2, f3, f4, f5⟩ := HT0.out.cells
    have hl' : (32 : Int) < (rs.length : Int) := by omega
    go_wp2
    refine bodyPost_ret (v := _) (by simp [results, Tryd.results51, go_sem, t0, t1, t2, t3, t4, t5]; try rfl) rfl ⟨j, hij, HDJ.out, ?_, ?_, _, DS, by rw [HTX.out]; exact ⟨_, HC.out.1, HC.out.2, rfl⟩, by rw [HTX.out]; exact HDS.out, .inl ⟨hbig, rfl⟩⟩
    · exact H.out.of_tq (HT.out.setNew hf 0 _ |>.setNew hf 1 _ |>.setNew hf 2 _ |>.setNew hf 3 _ |>.setNew hf 4 _ |>.setNew hf 5 _) ((six_other _ _ _ hqf _ _ _ _ _ _).trans HS.out.blk) HS.out.le
    · exact HT.out.setNew hf 0 _ |>.setNew hf 1 _ |>.setNew hf 2 _ |>.setNew hf 3 _ |>.setNew hf 4 _ |>.setNew hf 5 _
  · have hl' : decide ((32 : Int) < (rs.length : Int)) = false := by simp; omega
    go_wp2_with fail
    refine (text_any _ _ _ _ _ HO.out.sl hlen).mono ?_
    rintro r w4 ⟨DS, rfl, hds, hb4⟩
    rw [HC.out.2] at hds
    have HDS := hide hds
    replace HT0 := hide (HT0.out.below hb4)
    replace HT := hide (HT.out.trans (.of_below hb4))
    replace HS := hide (HS.out.below hb4)
    clear hb4 hds
    obtain ⟨hfl, t0, t1, t2, t3, t4, t5, f0, f1, f2, f3, f4, f5⟩ := HT0.out.cells
    go_wp2
    refine bodyPost_ret (v := _) (by simp [results, Tryd.results51, go_sem, t0, t1, t2, t3, t4, t5]; try rfl) rfl ⟨j, hij, HDJ.out, ?_, ?_, _, DS, by rw [HTX.out]; exact ⟨_, HC.out.1, HC.out.2, rfl⟩, by rw [HTX.out]; exact HDS.out, .inr ⟨by omega, rfl⟩⟩
    · exact H.out.of_tq (HT.out.setNew hf 0 _ |>.setNew hf 1 _ |>.setNew hf 2 _ |>.setNew hf 3 _ |>.setNew hf 4 _ |>.setNew hf 5 _) ((six_other _ _ _ hqf _ _ _ _ _ _).trans HS.out.blk) HS.out.le
    · exact HT.out.setNew hf 0 _ |>.setNew hf 1 _ |>.setNew hf 2 _ |>.setNew hf 3 _ |>.setNew hf 4 _ |>.setNew hf 5 _
end Lm
end Go.Proofs.YtgfglefgpgckiaaDoor

namespace Go.Proofs.YtgfglefgpgckiaaDoor
namespace Lm
open Go Go.RowKit
theorem encode_one {c : Int} (h : 0 ≤ c ∧ c < 128) : Utf8.encode c = strOfNums [c] := by
  obtain ⟨n, rfl⟩ : ∃ n : Nat, c = n := ⟨c.toNat, by omega⟩
  unfold Utf8.encode
  have hv : Utf8.valid (n : Int) = true := by simp [Utf8.valid]; omega
  simp only [hv, if_true]
  rw [if_pos (by omega)]
  rfl
theorem Tq.six {w w' : World} {q f : Nat} (h : Tq w w' q) (hf : w.heap.size ≤ f) (u0 u1 u2 u3 u4 u5 : Value) : Tq w ((((((w'.setCell ⟨f, 0, none⟩ u0).setCell ⟨f, 1, none⟩ u1).setCell ⟨f, 2, none⟩ u2).setCell ⟨f, 3, none⟩ u3).setCell ⟨f, 4, none⟩ u4).setCell ⟨f, 5, none⟩ u5) q :=
  h.setNew hf 0 _ |>.setNew hf 1 _ |>.setNew hf 2 _ |>.setNew hf 3 _ |>.setNew hf 4 _ |>.setNew hf 5 _
set_option maxRecDepth 20000 in
set_option maxHeartbeats 1000000 in
theorem sign_one (w : World) (q : Nat) (s : ByteArray) (v : Value) (gs : List Gl) (i : Nat) (e : Pl) (h : Scn w q s v gs i e) (hn : gs.length ≤ 100000) (g : Gl) (hg : gs[i]? = some g) (c : Int) (hc : gfold g.code = c) (h0 : 0 ≤ c ∧ c < 128) (h1 : c ≠ 58) (h2 : c ≠ 33) :
    Calls Tryd.prog 52 #[.pointer (some ⟨q, 0, none⟩)] w fun r w' => Scn w' q s v gs (i + 1) e ∧ Tq w w' q ∧ r = .returned (.tuple #[.agg #[.int .i64 3, .string (strOfNums [c]), .int .i64 0, .int .i64 0, .int .i64 0, .int .i64 0], .int .i64 0]) := by
  have H := hide h
  have hi : i < gs.length := (List.getElem?_eq_some_iff.1 hg).1
  have hil : (i : Int) < 100000 := by omega
  obtain ⟨ao, cap, rfl⟩ := h.gls.isSlice
  obtain ⟨b, off, rfl, hG⟩ := h.gls.glyph hg
  obtain ⟨hq, k0, k1, k2, k3, k4, k5, k6⟩ := h.cells
  obtain ⟨hb, g0, g1, g2, g3, g4, g5⟩ := hG
  have hfr := h.free 2
  have hi' : (i : Int) < (gs.length : Int) := by omega
  have KF : ∀ w, Calls Tryd.prog 58 #[.int .i64 g.code] w fun e w' => e = .returned (.int .i64 c) ∧ w' = w := fun w => by rw [← hc]; exact gfold_any w _
  have n8788 : (c == 8788) = false := beq_eq_false_iff_ne.2 (by omega)
  have n8800 : (c == 8800) = false := beq_eq_false_iff_ne.2 (by omega)
  have n58 : (c == 58) = false := beq_eq_false_iff_ne.2 (by omega)
  have n33 : (c == 33) = false := beq_eq_false_iff_ne.2 (by omega)
  clear h hg hc k0 k3 k4 k5 k6 g1 g2 g3 g4 g5
  go_enter Tryd.func52, Tryd.ntmps52
  go_wp2_with fail
  go_quiet ((go_at_call 58; exact Calls.quiet_of_same (KF _)))
  go_wp2
  refine bodyPost_ret (v := _) (by simp [results, Tryd.results52, go_sem]; try rfl) rfl ⟨?_, ?_, ?_⟩
  · refine H.out.of_tq (Tq.six ((Tq.of_below (by (repeat' (first | (with_reducible exact Below.refl _ _) | (with_reducible assumption) | (with_reducible refine gdrewN ?_ _) | (with_reducible refine Below.alloc ?_ ?_ _) | (with_reducible refine Below.drew ?_) | (with_reducible refine Below.setCell ?_ ?_ _) | go_size)))).set 2 _) (Nat.le_refl _) _ _ _ _ _ _) ((six_other _ _ _ (by omega) _ _ _ _ _ _).trans ?_) (by omega)
    rw [heap_setCell_same _ q 2 _ _ _ ((Below.block (B := w.heap.size) (by (repeat' (first | (with_reducible exact Below.refl _ _) | (with_reducible assumption) | (with_reducible refine gdrewN ?_ _) | (with_reducible refine Below.alloc ?_ ?_ _) | (with_reducible refine Below.drew ?_) | (with_reducible refine Below.setCell ?_ ?_ _) | go_size))) q hq).trans H.out.blk)]
    simp
  · exact Tq.six ((Tq.of_below (by (repeat' (first | (with_reducible exact Below.refl _ _) | (with_reducible assumption) | (with_reducible refine gdrewN ?_ _) | (with_reducible refine Below.alloc ?_ ?_ _) | (with_reducible refine Below.drew ?_) | (with_reducible refine Below.setCell ?_ ?_ _) | go_size)))).set 2 _) (Nat.le_refl _) _ _ _ _ _ _
  · simp [encode_one h0]
set_option maxRecDepth 20000 in
set_option maxHeartbeats 1000000 in
theorem sign_becomes (w : World) (q : Nat) (s : ByteArray) (v : Value) (gs : List Gl) (i : Nat) (e : Pl) (h : Scn w q s v gs i e) (hn : gs.length ≤ 100000) (g : Gl) (hg : gs[i]? = some g) (c : Int) (hc : gfold g.code = c) (h0 : c = 8788) :
    Calls Tryd.prog 52 #[.pointer (some ⟨q, 0, none⟩)] w fun r w' => Scn w' q s v gs (i + 1) e ∧ Tq w w' q ∧ r = .returned (.tuple #[.agg #[.int .i64 3, .string (strOfNums [58, 61]), .int .i64 0, .int .i64 0, .int .i64 0, .int .i64 0], .int .i64 0]) := by
  have H := hide h
  have hi : i < gs.length := (List.getElem?_eq_some_iff.1 hg).1
  have hil : (i : Int) < 100000 := by omega
  obtain ⟨ao, cap, rfl⟩ := h.gls.isSlice
  obtain ⟨b, off, rfl, hG⟩ := h.gls.glyph hg
  obtain ⟨hq, k0, k1, k2, k3, k4, k5, k6⟩ := h.cells
  obtain ⟨hb, g0, g1, g2, g3, g4, g5⟩ := hG
  have hfr := h.free 2
  have hi' : (i : Int) < (gs.length : Int) := by omega
  have KF : ∀ w, Calls Tryd.prog 58 #[.int .i64 g.code] w fun e w' => e = .returned (.int .i64 c) ∧ w' = w := fun w => by rw [← hc]; exact gfold_any w _
  subst h0
  clear h hg hc k0 k3 k4 k5 k6 g1 g2 g3 g4 g5
  go_enter Tryd.func52, Tryd.ntmps52
  go_wp2_with fail
  go_quiet ((go_at_call 58; exact Calls.quiet_of_same (KF _)))
  go_wp2
  refine bodyPost_ret (v := _) (by simp [results, Tryd.results52, go_sem]; try rfl) rfl ⟨?_, ?_, ?_⟩
  · refine H.out.of_tq (Tq.six ((Tq.of_below (by (repeat' (first | (with_reducible exact Below.refl _ _) | (with_reducible assumption) | (with_reducible refine gdrewN ?_ _) | (with_reducible refine Below.alloc ?_ ?_ _) | (with_reducible refine Below.drew ?_) | (with_reducible refine Below.setCell ?_ ?_ _) | go_size)))).set 2 _) (Nat.le_refl _) _ _ _ _ _ _) ((six_other _ _ _ (by omega) _ _ _ _ _ _).trans ?_) (by omega)
    rw [heap_setCell_same _ q 2 _ _ _ ((Below.block (B := w.heap.size) (by (repeat' (first | (with_reducible exact Below.refl _ _) | (with_reducible assumption) | (with_reducible refine gdrewN ?_ _) | (with_reducible refine Below.alloc ?_ ?_ _) | (with_reducible refine Below.drew ?_) | (with_reducible refine Below.setCell ?_ ?_ _) | go_size))) q hq).trans H.out.blk)]
    simp
  · exact Tq.six ((Tq.of_below (by (repeat' (first | (with_reducible exact Below.refl _ _) | (with_reducible assumption) | (with_reducible refine gdrewN ?_ _) | (with_reducible refine Below.alloc ?_ ?_ _) | (with_reducible refine Below.drew ?_) | (with_reducible refine Below.setCell ?_ ?_ _) | go_size)))).set 2 _) (Nat.le_refl _) _ _ _ _ _ _
  · rfl
set_option maxRecDepth 20000 in
set_option maxHeartbeats 1000000 in
theorem sign_unlike (w : World) (q : Nat) (s : ByteArray) (v : Value) (gs : List Gl) (i : Nat) (e : Pl) (h : Scn w q s v gs i e) (hn : gs.length ≤ 100000) (g : Gl) (hg : gs[i]? = some g) (c : Int) (hc : gfold g.code = c) (h0 : c = 8800) :
    Calls Tryd.prog 52 #[.pointer (some ⟨q, 0, none⟩)] w fun r w' => Scn w' q s v gs (i + 1) e ∧ Tq w w' q ∧ r = .returned (.tuple #[.agg #[.int .i64 3, .string (strOfNums [33, 61]), .int .i64 0, .int .i64 0, .int .i64 0, .int .i64 0], .int .i64 0]) := by
  have H := hide h
  have hi : i < gs.length := (List.getElem?_eq_some_iff.1 hg).1
  have hil : (i : Int) < 100000 := by omega
  obtain ⟨ao, cap, rfl⟩ := h.gls.isSlice
  obtain ⟨b, off, rfl, hG⟩ := h.gls.glyph hg
  obtain ⟨hq, k0, k1, k2, k3, k4, k5, k6⟩ := h.cells
  obtain ⟨hb, g0, g1, g2, g3, g4, g5⟩ := hG
  have hfr := h.free 2
  have hi' : (i : Int) < (gs.length : Int) := by omega
  have KF : ∀ w, Calls Tryd.prog 58 #[.int .i64 g.code] w fun e w' => e = .returned (.int .i64 c) ∧ w' = w := fun w => by rw [← hc]; exact gfold_any w _
  subst h0
  clear h hg hc k0 k3 k4 k5 k6 g1 g2 g3 g4 g5
  go_enter Tryd.func52, Tryd.ntmps52
  go_wp2_with fail
  go_quiet ((go_at_call 58; exact Calls.quiet_of_same (KF _)))
  go_wp2
  refine bodyPost_ret (v := _) (by simp [results, Tryd.results52, go_sem]; try rfl) rfl ⟨?_, ?_, ?_⟩
  · refine H.out.of_tq (Tq.six ((Tq.of_below (by (repeat' (first | (with_reducible exact Below.refl _ _) | (with_reducible assumption) | (with_reducible refine gdrewN ?_ _) | (with_reducible refine Below.alloc ?_ ?_ _) | (with_reducible refine Below.drew ?_) | (with_reducible refine Below.setCell ?_ ?_ _) | go_size)))).set 2 _) (Nat.le_refl _) _ _ _ _ _ _) ((six_other _ _ _ (by omega) _ _ _ _ _ _).trans ?_) (by omega)
    rw [heap_setCell_same _ q 2 _ _ _ ((Below.block (B := w.heap.size) (by (repeat' (first | (with_reducible exact Below.refl _ _) | (with_reducible assumption) | (with_reducible refine gdrewN ?_ _) | (with_reducible refine Below.alloc ?_ ?_ _) | (with_reducible refine Below.drew ?_) | (with_reducible refine Below.setCell ?_ ?_ _) | go_size))) q hq).trans H.out.blk)]
    simp
  · exact Tq.six ((Tq.of_below (by (repeat' (first | (with_reducible exact Below.refl _ _) | (with_reducible assumption) | (with_reducible refine gdrewN ?_ _) | (with_reducible refine Below.alloc ?_ ?_ _) | (with_reducible refine Below.drew ?_) | (with_reducible refine Below.setCell ?_ ?_ _) | go_size)))).set 2 _) (Nat.le_refl _) _ _ _ _ _ _
  · rfl
set_option maxRecDepth 20000 in
set_option maxHeartbeats 1000000 in
theorem sign_colon (w : World) (q : Nat) (s : ByteArray) (v : Value) (gs : List Gl) (i : Nat) (e : Pl) (h : Scn w q s v gs i e) (hn : gs.length ≤ 100000) (g : Gl) (hg : gs[i]? = some g) (c : Int) (hc : gfold g.code = c) (h0 : c = 58) (gn : Gl) (hg2 : gs[i + 1]? = some gn) (he2 : gn.code = 61) :
    Calls Tryd.prog 52 #[.pointer (some ⟨q, 0, none⟩)] w fun r w' => Scn w' q s v gs (i + 2) e ∧ Tq w w' q ∧ r = .returned (.tuple #[.agg #[.int .i64 3, .string (strOfNums [58, 61]), .int .i64 0, .int .i64 0, .int .i64 0, .int .i64 0], .int .i64 0]) := by
  have H := hide h
  have hi : i < gs.length := (List.getElem?_eq_some_iff.1 hg).1
  have hil : (i : Int) < 100000 := by omega
  obtain ⟨ao, cap, rfl⟩ := h.gls.isSlice
  obtain ⟨b, off, rfl, hG⟩ := h.gls.glyph hg
  obtain ⟨hq, k0, k1, k2, k3, k4, k5, k6⟩ := h.cells
  obtain ⟨hb, g0, g1, g2, g3, g4, g5⟩ := hG
  have hfr := h.free 2
  have hi' : (i : Int) < (gs.length : Int) := by omega
  have KF : ∀ w, Calls Tryd.prog 58 #[.int .i64 g.code] w fun e w' => e = .returned (.int .i64 c) ∧ w' = w := fun w => by rw [← hc]; exact gfold_any w _
  subst h0
  clear h hg hc k0 k3 k4 k5 k6 g1 g2 g3 g4 g5
  go_enter Tryd.func52, Tryd.ntmps52
  go_wp2_with fail
  go_quiet ((go_at_call 58; exact Calls.quiet_of_same (KF _)))
  go_wp2_with fail
  generalize hE : Utf8.encode 58 = T
  have HE := hide ((encode_one (c := 58) (by omega)).symm.trans hE)
  have hTs : T.size ≤ 10 := by rw [← HE.out, strOfNums_size]; simp
  have hadd : ∀ w, (Op.stringOp .add T ⟨#[61]⟩).run Tryd.prog w = .ok (.string (T ++ ⟨#[61]⟩)) w := fun w => run_string_add_sum (P := Tryd.prog) w T ⟨#[61]⟩ (by show T.size + 1 ≤ _; omega)
  generalize hU : T ++ (⟨#[61]⟩ : ByteArray) = U at hadd
  have HU := hide hU
  clear hU hTs
  clear hE
  have hbq : Below w.heap.size w ((w.alloc (.cells #[.int .i64 0, .string ⟨#[]⟩, .int .i64 0, .int .i64 0, .int .i64 0, .int .i64 0] 35)).drewN nq) := by (repeat' (first | (with_reducible exact Below.refl _ _) | (with_reducible assumption) | (with_reducible refine gdrewN ?_ _) | (with_reducible refine Below.alloc ?_ ?_ _) | (with_reducible refine Below.drew ?_) | (with_reducible refine Below.setCell ?_ ?_ _) | go_size))
  have HT1 := hide ((Tq.of_below (q := q) hbq).set 2 (.int .i64 ((i : Int) + 1)))
  have HS1 := hide ((H.out.below hbq).set (by omega))
  have HT0 : Hid (Tk0B (((w.alloc (.cells #[.int .i64 0, .string ⟨#[]⟩, .int .i64 0, .int .i64 0, .int .i64 0, .int .i64 0] 35)).drewN nq).setCell ⟨q, 2, none⟩ (.int .i64 ((i : Int) + 1))) w.heap.size) := ((heap_setCell_other _ ⟨q, 2, none⟩ w.heap.size _ (by show w.heap.size ≠ q; omega)).trans (heap_alloc_new w _))
  clear hbq k1 k2 hfr g0 hb
  generalize ((w.alloc (.cells #[.int .i64 0, .string ⟨#[]⟩, .int .i64 0, .int .i64 0, .int .i64 0, .int .i64 0] 35)).drewN nq).setCell ⟨q, 2, none⟩ (.int .i64 ((i : Int) + 1)) = w1 at HT1 HS1 HT0 ⊢
  obtain ⟨m, hm⟩ : ∃ m, m = i + 1 := ⟨_, rfl⟩
  rw [← hm] at HS1 hg2
  obtain ⟨b2, off2, e2, hG2⟩ := HS1.out.gls.glyph hg2
  obtain ⟨rfl, rfl⟩ : b2 = b ∧ off2 = off := by simpa [eq_comm] using e2
  obtain ⟨hq1, k0, k1, k2, k3, k4, k5, k6⟩ := HS1.out.cells
  obtain ⟨hb, g0, g1, g2, g3, g4, g5⟩ := hG2
  rw [he2] at g0
  have hfr := HS1.out.free 2
  obtain ⟨hfl, t0, t1, t2, t3, t4, t5, f0, f1, f2, f3, f4, f5⟩ := HT0.out.cells
  have hi2 : (m : Int) < (gs.length : Int) := by have := (List.getElem?_eq_some_iff.1 hg2).1; omega
  have hne2 : ((m : Int) == (gs.length : Int)) = false := beq_eq_false_iff_ne.2 (by omega)
  have HM := hide hm
  clear e2 k0 k3 k4 k5 k6 g1 g2 g3 g4 g5 hm
  go_wp2_with fail
  go_quiet (fail)
  clear k1 k2 g0 t0 t1 t2 t3 t4 t5 f0 f1 f2 f3 f4 f5 hfr hfl hb hq1
  have hbq : Below w1.heap.size w1 (w1.drewN nq) := by (repeat' (first | (with_reducible exact Below.refl _ _) | (with_reducible assumption) | (with_reducible refine gdrewN ?_ _) | (with_reducible refine Below.alloc ?_ ?_ _) | (with_reducible refine Below.drew ?_) | (with_reducible refine Below.setCell ?_ ?_ _) | go_size))
  replace HT1 := hide (HT1.out.trans (.of_below hbq))
  replace HS1 := hide (HS1.out.below hbq)
  replace HT0 := hide (HT0.out.below hbq)
  clear hbq
  generalize w1.drewN nq = w2 at HT1 HS1 HT0 ⊢
  generalize hf : w.heap.size = f at *
  replace hf : w.heap.size ≤ f := by omega
  have hqf : q ≠ f := by omega
  obtain ⟨hq1, k0, k1, k2, k3, k4, k5, k6⟩ := HS1.out.cells
  have hfr := HS1.out.free 2
  clear k0 k1 k3 k4 k5 k6
  have hml : (m : Int) < 100000 := by omega
  obtain ⟨hfl, t0, t1, t2, t3, t4, t5, f0, f1, f2, f3, f4, f5⟩ := HT0.out.cells
  clear hne2 hg2 he2 hi hil KF
  go_wp2
  refine bodyPost_ret (v := _) (by simp [results, Tryd.results52, go_sem, t0, t1, t2, t3, t4, t5]; try rfl) rfl ⟨?_, ?_, ?_⟩
  · refine H.out.of_tq (Tq.six (HT1.out.set 2 _) hf _ _ _ _ _ _) ((six_other _ _ _ hqf _ _ _ _ _ _).trans ?_) (by have := HM.out; omega)
    rw [heap_setCell_same w2 q 2 _ _ _ HS1.out.blk]
    have := HM.out
    simp
    omega
  · exact Tq.six (HT1.out.set 2 _) hf _ _ _ _ _ _
  · rw [← HU.out, ← HE.out]
    rfl
set_option maxRecDepth 20000 in
set_option maxHeartbeats 1000000 in
theorem sign_colon_other (w : World) (q : Nat) (s : ByteArray) (v : Value) (gs : List Gl) (i : Nat) (e : Pl) (h : Scn w q s v gs i e) (hn : gs.length ≤ 100000) (g : Gl) (hg : gs[i]? = some g) (c : Int) (hc : gfold g.code = c) (h0 : c = 58) (gn : Gl) (hg2 : gs[i + 1]? = some gn) (he2 : gn.code ≠ 61) :
    Calls Tryd.prog 52 #[.pointer (some ⟨q, 0, none⟩)] w fun r w' => Scn w' q s v gs (i + 1) e ∧ Tq w w' q ∧ r = .returned (.tuple #[tok0, .int .i64 41]) := by
  have H := hide h
  have hi : i < gs.length := (List.getElem?_eq_some_iff.1 hg).1
  have hil : (i : Int) < 100000 := by omega
  obtain ⟨ao, cap, rfl⟩ := h.gls.isSlice
  obtain ⟨b, off, rfl, hG⟩ := h.gls.glyph hg
  obtain ⟨hq, k0, k1, k2, k3, k4, k5, k6⟩ := h.cells
  obtain ⟨hb, g0, g1, g2, g3, g4, g5⟩ := hG
  have hfr := h.free 2
  have hi' : (i : Int) < (gs.length : Int) := by omega
  have KF : ∀ w, Calls Tryd.prog 58 #[.int .i64 g.code] w fun e w' => e = .returned (.int .i64 c) ∧ w' = w := fun w => by rw [← hc]; exact gfold_any w _
  subst h0
  clear h hg hc k0 k3 k4 k5 k6 g1 g2 g3 g4 g5
  unfold tok0
  go_enter Tryd.func52, Tryd.ntmps52
  go_wp2_with fail
  go_quiet ((go_at_call 58; exact Calls.quiet_of_same (KF _)))
  go_wp2_with fail
  generalize hE : Utf8.encode 58 = T
  have HE := hide ((encode_one (c := 58) (by omega)).symm.trans hE)
  have hTs : T.size ≤ 10 := by rw [← HE.out, strOfNums_size]; simp
  have hadd : ∀ w, (Op.stringOp .add T ⟨#[61]⟩).run Tryd.prog w = .ok (.string (T ++ ⟨#[61]⟩)) w := fun w => run_string_add_sum (P := Tryd.prog) w T ⟨#[61]⟩ (by show T.size + 1 ≤ _; omega)
  generalize hU : T ++ (⟨#[61]⟩ : ByteArray) = U at hadd
  have HU := hide hU
  clear hU hTs
  clear hE
  have hbq : Below w.heap.size w ((w.alloc (.cells #[.int .i64 0, .string ⟨#[]⟩, .int .i64 0, .int .i64 0, .int .i64 0, .int .i64 0] 35)).drewN nq) := by (repeat' (first | (with_reducible exact Below.refl _ _) | (with_reducible assumption) | (with_reducible refine gdrewN ?_ _) | (with_reducible refine Below.alloc ?_ ?_ _) | (with_reducible refine Below.drew ?_) | (with_reducible refine Below.setCell ?_ ?_ _) | go_size))
  have HT1 := hide ((Tq.of_below (q := q) hbq).set 2 (.int .i64 ((i : Int) + 1)))
  have HS1 := hide ((H.out.below hbq).set (by omega))
  have HT0 : Hid (Tk0B (((w.alloc (.cells #[.int .i64 0, .string ⟨#[]⟩, .int .i64 0, .int .i64 0, .int .i64 0, .int .i64 0] 35)).drewN nq).setCell ⟨q, 2, none⟩ (.int .i64 ((i : Int) + 1))) w.heap.size) := ((heap_setCell_other _ ⟨q, 2, none⟩ w.heap.size _ (by show w.heap.size ≠ q; omega)).trans (heap_alloc_new w _))
  clear hbq k1 k2 hfr g0 hb
  generalize ((w.alloc (.cells #[.int .i64 0, .string ⟨#[]⟩, .int .i64 0, .int .i64 0, .int .i64 0, .int .i64 0] 35)).drewN nq).setCell ⟨q, 2, none⟩ (.int .i64 ((i : Int) + 1)) = w1 at HT1 HS1 HT0 ⊢
  obtain ⟨m, hm⟩ : ∃ m, m = i + 1 := ⟨_, rfl⟩
  rw [← hm] at HS1 hg2
  obtain ⟨b2, off2, e2, hG2⟩ := HS1.out.gls.glyph hg2
  obtain ⟨rfl, rfl⟩ : b2 = b ∧ off2 = off := by simpa [eq_comm] using e2
  obtain ⟨hq1, k0, k1, k2, k3, k4, k5, k6⟩ := HS1.out.cells
  obtain ⟨hb, g0, g1, g2, g3, g4, g5⟩ := hG2
  have hne61 : ((gn.code : Int) != 61) = true := by simp; omega
  have hfr := HS1.out.free 2
  obtain ⟨hfl, t0, t1, t2, t3, t4, t5, f0, f1, f2, f3, f4, f5⟩ := HT0.out.cells
  have hi2 : (m : Int) < (gs.length : Int) := by have := (List.getElem?_eq_some_iff.1 hg2).1; omega
  have hne2 : ((m : Int) == (gs.length : Int)) = false := beq_eq_false_iff_ne.2 (by omega)
  have HM := hide hm
  clear e2 k0 k3 k4 k5 k6 g1 g2 g3 g4 g5 hm
  go_wp2_with fail
  go_quiet (fail)
  clear k1 k2 g0 t0 t1 t2 t3 t4 t5 f0 f1 f2 f3 f4 f5 hfr hfl hb hq1
  have hbq : Below w1.heap.size w1 (w1.drewN nq) := by (repeat' (first | (with_reducible exact Below.refl _ _) | (with_reducible assumption) | (with_reducible refine gdrewN ?_ _) | (with_reducible refine Below.alloc ?_ ?_ _) | (with_reducible refine Below.drew ?_) | (with_reducible refine Below.setCell ?_ ?_ _) | go_size))
  replace HT1 := hide (HT1.out.trans (.of_below hbq))
  replace HS1 := hide (HS1.out.below hbq)
  replace HT0 := hide (HT0.out.below hbq)
  clear hbq
  generalize w1.drewN nq = w2 at HT1 HS1 HT0 ⊢
  generalize hf : w.heap.size = f at *
  replace hf : w.heap.size ≤ f := by omega
  have hqf : q ≠ f := by omega
  obtain ⟨hq1, k0, k1, k2, k3, k4, k5, k6⟩ := HS1.out.cells
  have hfr := HS1.out.free 2
  clear k0 k1 k3 k4 k5 k6
  have hml : (m : Int) < 100000 := by omega
  obtain ⟨hfl, t0, t1, t2, t3, t4, t5, f0, f1, f2, f3, f4, f5⟩ := HT0.out.cells
  clear hne2 hg2 he2 hne61 hi hil KF
  go_wp2
  refine bodyPost_ret (v := _) (by simp [results, Tryd.results52, go_sem, t0, t1, t2, t3, t4, t5]; try rfl) rfl ⟨?_, ?_, ?_⟩
  · refine H.out.of_tq (Tq.six HT1.out hf _ _ _ _ _ _) ((six_other _ _ _ hqf _ _ _ _ _ _).trans ?_) (by have := HM.out; omega)
    rw [HS1.out.blk, HM.out]
  · exact Tq.six HT1.out hf _ _ _ _ _ _
  · rfl
set_option maxRecDepth 20000 in
set_option maxHeartbeats 1000000 in
theorem sign_colon_none (w : World) (q : Nat) (s : ByteArray) (v : Value) (gs : List Gl) (i : Nat) (e : Pl) (h : Scn w q s v gs i e) (hn : gs.length ≤ 100000) (g : Gl) (hg : gs[i]? = some g) (c : Int) (hc : gfold g.code = c) (h0 : c = 58) (hg2 : gs.length ≤ i + 1) :
    Calls Tryd.prog 52 #[.pointer (some ⟨q, 0, none⟩)] w fun r w' => Scn w' q s v gs (i + 1) e ∧ Tq w w' q ∧ r = .returned (.tuple #[tok0, .int .i64 41]) := by
  have H := hide h
  have hi : i < gs.length := (List.getElem?_eq_some_iff.1 hg).1
  have hil : (i : Int) < 100000 := by omega
  obtain ⟨ao, cap, rfl⟩ := h.gls.isSlice
  obtain ⟨b, off, rfl, hG⟩ := h.gls.glyph hg
  obtain ⟨hq, k0, k1, k2, k3, k4, k5, k6⟩ := h.cells
  obtain ⟨hb, g0, g1, g2, g3, g4, g5⟩ := hG
  have hfr := h.free 2
  have hi' : (i : Int) < (gs.length : Int) := by omega
  have KF : ∀ w, Calls Tryd.prog 58 #[.int .i64 g.code] w fun e w' => e = .returned (.int .i64 c) ∧ w' = w := fun w => by rw [← hc]; exact gfold_any w _
  subst h0
  clear h hg hc k0 k3 k4 k5 k6 g1 g2 g3 g4 g5
  unfold tok0
  go_enter Tryd.func52, Tryd.ntmps52
  go_wp2_with fail
  go_quiet ((go_at_call 58; exact Calls.quiet_of_same (KF _)))
  go_wp2_with fail
  generalize hE : Utf8.encode 58 = T
  have HE := hide ((encode_one (c := 58) (by omega)).symm.trans hE)
  have hTs : T.size ≤ 10 := by rw [← HE.out, strOfNums_size]; simp
  have hadd : ∀ w, (Op.stringOp .add T ⟨#[61]⟩).run Tryd.prog w = .ok (.string (T ++ ⟨#[61]⟩)) w := fun w => run_string_add_sum (P := Tryd.prog) w T ⟨#[61]⟩ (by show T.size + 1 ≤ _; omega)
  generalize hU : T ++ (⟨#[61]⟩ : ByteArray) = U at hadd
  have HU := hide hU
  clear hU hTs
  clear hE
  have hbq : Below w.heap.size w ((w.alloc (.cells #[.int .i64 0, .string ⟨#[]⟩, .int .i64 0, .int .i64 0, .int .i64 0, .int .i64 0] 35)).drewN nq) := by (repeat' (first | (with_reducible exact Below.refl _ _) | (with_reducible assumption) | (with_reducible refine gdrewN ?_ _) | (with_reducible refine Below.alloc ?_ ?_ _) | (with_reducible refine Below.drew ?_) | (with_reducible refine Below.setCell ?_ ?_ _) | go_size))
  have HT1 := hide ((Tq.of_below (q := q) hbq).set 2 (.int .i64 ((i : Int) + 1)))
  have HS1 := hide ((H.out.below hbq).set (by omega))
  have HT0 : Hid (Tk0B (((w.alloc (.cells #[.int .i64 0, .string ⟨#[]⟩, .int .i64 0, .int .i64 0, .int .i64 0, .int .i64 0] 35)).drewN nq).setCell ⟨q, 2, none⟩ (.int .i64 ((i : Int) + 1))) w.heap.size) := ((heap_setCell_other _ ⟨q, 2, none⟩ w.heap.size _ (by show w.heap.size ≠ q; omega)).trans (heap_alloc_new w _))
  clear hbq k1 k2 hfr g0 hb
  generalize ((w.alloc (.cells #[.int .i64 0, .string ⟨#[]⟩, .int .i64 0, .int .i64 0, .int .i64 0, .int .i64 0] 35)).drewN nq).setCell ⟨q, 2, none⟩ (.int .i64 ((i : Int) + 1)) = w1 at HT1 HS1 HT0 ⊢
  obtain ⟨m, hm⟩ : ∃ m, m = i + 1 := ⟨_, rfl⟩
  rw [← hm] at HS1
  obtain ⟨hq1, k0, k1, k2, k3, k4, k5, k6⟩ := HS1.out.cells
  obtain ⟨hfl, t0, t1, t2, t3, t4, t5, f0, f1, f2, f3, f4, f5⟩ := HT0.out.cells
  have hne2 : ((m : Int) == (gs.length : Int)) = true := by simp; omega
  have HM := hide hm
  clear k0 k3 k4 k5 k6 hm
  go_wp2_with fail
  go_quiet (fail)
  clear k1 k2 t0 t1 t2 t3 t4 t5 f0 f1 f2 f3 f4 f5 hfl hq1
  have hbq : Below w1.heap.size w1 (w1.drewN nq) := by (repeat' (first | (with_reducible exact Below.refl _ _) | (with_reducible assumption) | (with_reducible refine gdrewN ?_ _) | (with_reducible refine Below.alloc ?_ ?_ _) | (with_reducible refine Below.drew ?_) | (with_reducible refine Below.setCell ?_ ?_ _) | go_size))
  replace HT1 := hide (HT1.out.trans (.of_below hbq))
  replace HS1 := hide (HS1.out.below hbq)
  replace HT0 := hide (HT0.out.below hbq)
  clear hbq
  generalize w1.drewN nq = w2 at HT1 HS1 HT0 ⊢
  generalize hf : w.heap.size = f at *
  replace hf : w.heap.size ≤ f := by omega
  have hqf : q ≠ f := by omega
  obtain ⟨hq1, k0, k1, k2, k3, k4, k5, k6⟩ := HS1.out.cells
  have hfr := HS1.out.free 2
  clear k0 k1 k3 k4 k5 k6
  have hml : (m : Int) < 100001 := by have := HM.out; omega
  obtain ⟨hfl, t0, t1, t2, t3, t4, t5, f0, f1, f2, f3, f4, f5⟩ := HT0.out.cells
  clear hne2 hi hil KF
  go_wp2
  refine bodyPost_ret (v := _) (by simp [results, Tryd.results52, go_sem, t0, t1, t2, t3, t4, t5]; try rfl) rfl ⟨?_, ?_, ?_⟩
  · refine H.out.of_tq (Tq.six HT1.out hf _ _ _ _ _ _) ((six_other _ _ _ hqf _ _ _ _ _ _).trans ?_) (by have := HM.out; omega)
    rw [HS1.out.blk, HM.out]
  · exact Tq.six HT1.out hf _ _ _ _ _ _
  · rfl
set_option maxRecDepth 20000 in
set_option maxHeartbeats 1000000 in
theorem sign_bang (w : World) (q : Nat) (s : ByteArray) (v : Value) (gs : List Gl) (i : Nat) (e : Pl) (h : Scn w q s v gs i e) (hn : gs.length ≤ 100000) (g : Gl) (hg : gs[i]? = some g) (c : Int) (hc : gfold g.code = c) (h0 : c = 33) (gn : Gl) (hg2 : gs[i + 1]? = some gn) (he2 : gn.code = 61) :
    Calls Tryd.prog 52 #[.pointer (some ⟨q, 0, none⟩)] w fun r w' => Scn w' q s v gs (i + 2) e ∧ Tq w w' q ∧ r = .returned (.tuple #[.agg #[.int .i64 3, .string (strOfNums [33, 61]), .int .i64 0, .int .i64 0, .int .i64 0, .int .i64 0], .int .i64 0]) := by
  have H := hide h
  have hi : i < gs.length := (List.getElem?_eq_some_iff.1 hg).1
  have hil : (i : Int) < 100000 := by omega
  obtain ⟨ao, cap, rfl⟩ := h.gls.isSlice
  obtain ⟨b, off, rfl, hG⟩ := h.gls.glyph hg
  obtain ⟨hq, k0, k1, k2, k3, k4, k5, k6⟩ := h.cells
  obtain ⟨hb, g0, g1, g2, g3, g4, g5⟩ := hG
  have hfr := h.free 2
  have hi' : (i : Int) < (gs.length : Int) := by omega
  have KF : ∀ w, Calls Tryd.prog 58 #[.int .i64 g.code] w fun e w' => e = .returned (.int .i64 c) ∧ w' = w := fun w => by rw [← hc]; exact gfold_any w _
  subst h0
  clear h hg hc k0 k3 k4 k5 k6 g1 g2 g3 g4 g5
  go_enter Tryd.func52, Tryd.ntmps52
  go_wp2_with fail
  go_quiet ((go_at_call 58; exact Calls.quiet_of_same (KF _)))
  go_wp2_with fail
  generalize hE : Utf8.encode 33 = T
  have HE := hide ((encode_one (c := 33) (by omega)).symm.trans hE)
  have hTs : T.size ≤ 10 := by rw [← HE.out, strOfNums_size]; simp
  have hadd : ∀ w, (Op.stringOp .add T ⟨#[61]⟩).run Tryd.prog w = .ok (.string (T ++ ⟨#[61]⟩)) w := fun w => run_string_add_sum (P := Tryd.prog) w T ⟨#[61]⟩ (by show T.size + 1 ≤ _; omega)
  generalize hU : T ++ (⟨#[61]⟩ : ByteArray) = U at hadd
  have HU := hide hU
  clear hU hTs
  clear hE
  have hbq : Below w.heap.size w ((w.alloc (.cells #[.int .i64 0, .string ⟨#[]⟩, .int .i64 0, .int .i64 0, .int .i64 0, .int .i64 0] 35)).drewN nq) := by (repeat' (first | (with_reducible exact Below.refl _ _) | (with_reducible assumption) | (with_reducible refine gdrewN ?_ _) | (with_reducible refine Below.alloc ?_ ?_ _) | (with_reducible refine Below.drew ?_) | (with_reducible refine Below.setCell ?_ ?_ _) | go_size))
  have HT1 := hide ((Tq.of_below (q := q) hbq).set 2 (.int .i64 ((i : Int) + 1)))
  have HS1 := hide ((H.out.below hbq).set (by omega))
  have HT0 : Hid (Tk0B (((w.alloc (.cells #[.int .i64 0, .string ⟨#[]⟩, .int .i64 0, .int .i64 0, .int .i64 0, .int .i64 0] 35)).drewN nq).setCell ⟨q, 2, none⟩ (.int .i64 ((i : Int) + 1))) w.heap.size) := ((heap_setCell_other _ ⟨q, 2, none⟩ w.heap.size _ (by show w.heap.size ≠ q; omega)).trans (heap_alloc_new w _))
  clear hbq k1 k2 hfr g0 hb
  generalize ((w.alloc (.cells #[.int .i64 0, .string ⟨#[]⟩, .int .i64 0, .int .i64 0, .int .i64 0, .int .i64 0] 35)).drewN nq).setCell ⟨q, 2, none⟩ (.int .i64 ((i : Int) + 1)) = w1 at HT1 HS1 HT0 ⊢
  obtain ⟨m, hm⟩ : ∃ m, m = i + 1 := ⟨_, rfl⟩
  rw [← hm] at HS1 hg2
  obtain ⟨b2, off2, e2, hG2⟩ := HS1.out.gls.glyph hg2
  obtain ⟨rfl, rfl⟩ : b2 = b ∧ off2 = off := by simpa [eq_comm] using e2
  obtain ⟨hq1, k0, k1, k2, k3, k4, k5, k6⟩ := HS1.out.cells
  obtain ⟨hb, g0, g1, g2, g3, g4, g5⟩ := hG2
  rw [he2] at g0
  have hfr := HS1.out.free 2
  obtain ⟨hfl, t0, t1, t2, t3, t4, t5, f0, f1, f2, f3, f4, f5⟩ := HT0.out.cells
  have hi2 : (m : Int) < (gs.length : Int) := by have := (List.getElem?_eq_some_iff.1 hg2).1; omega
  have hne2 : ((m : Int) == (gs.length : Int)) = false := beq_eq_false_iff_ne.2 (by omega)
  have HM := hide hm
  clear e2 k0 k3 k4 k5 k6 g1 g2 g3 g4 g5 hm
  go_wp2_with fail
  go_quiet (fail)
  clear k1 k2 g0 t0 t1 t2 t3 t4 t5 f0 f1 f2 f3 f4 f5 hfr hfl hb hq1
  have hbq : Below w1.heap.size w1 (w1.drewN nq) := by (repeat' (first | (with_reducible exact Below.refl _ _) | (with_reducible assumption) | (with_reducible refine gdrewN ?_ _) | (with_reducible refine Below.alloc ?_ ?_ _) | (with_reducible refine Below.drew ?_) | (with_reducible refine Below.setCell ?_ ?_ _) | go_size))
  replace HT1 := hide (HT1.out.trans (.of_below hbq))
  replace HS1 := hide (HS1.out.below hbq)
  replace HT0 := hide (HT0.out.below hbq)
  clear hbq
  generalize w1.drewN nq = w2 at HT1 HS1 HT0 ⊢
  generalize hf : w.heap.size = f at *
  replace hf : w.heap.size ≤ f := by omega
  have hqf : q ≠ f := by omega
  obtain ⟨hq1, k0, k1, k2, k3, k4, k5, k6⟩ := HS1.out.cells
  have hfr := HS1.out.free 2
  clear k0 k1 k3 k4 k5 k6
  have hml : (m : Int) < 100000 := by omega
  obtain ⟨hfl, t0, t1, t2, t3, t4, t5, f0, f1, f2, f3, f4, f5⟩ := HT0.out.cells
  clear hne2 hg2 he2 hi hil KF
  go_wp2
  refine bodyPost_ret (v := _) (by simp [results, Tryd.results52, go_sem, t0, t1, t2, t3, t4, t5]; try rfl) rfl ⟨?_, ?_, ?_⟩
  · refine H.out.of_tq (Tq.six (HT1.out.set 2 _) hf _ _ _ _ _ _) ((six_other _ _ _ hqf _ _ _ _ _ _).trans ?_) (by have := HM.out; omega)
    rw [heap_setCell_same w2 q 2 _ _ _ HS1.out.blk]
    have := HM.out
    simp
    omega
  · exact Tq.six (HT1.out.set 2 _) hf _ _ _ _ _ _
  · rw [← HU.out, ← HE.out]
    rfl
set_option maxRecDepth 20000 in
set_option maxHeartbeats 1000000 in
theorem sign_bang_other (w : World) (q : Nat) (s : ByteArray) (v : Value) (gs : List Gl) (i : Nat) (e : Pl) (h : Scn w q s v gs i e) (hn : gs.length ≤ 100000) (g : Gl) (hg : gs[i]? = some g) (c : Int) (hc : gfold g.code = c) (h0 : c = 33) (gn : Gl) (hg2 : gs[i + 1]? = some gn) (he2 : gn.code ≠ 61) :
    Calls Tryd.prog 52 #[.pointer (some ⟨q, 0, none⟩)] w fun r w' => Scn w' q s v gs (i + 1) e ∧ Tq w w' q ∧ r = .returned (.tuple #[tok0, .int .i64 41]) := by
  have H := hide h
  have hi : i < gs.length := (List.getElem?_eq_some_iff.1 hg).1
  have hil : (i : Int) < 100000 := by omega
  obtain ⟨ao, cap, rfl⟩ := h.gls.isSlice
  obtain ⟨b, off, rfl, hG⟩ := h.gls.glyph hg
  obtain ⟨hq, k0, k1, k2, k3, k4, k5, k6⟩ := h.cells
  obtain ⟨hb, g0, g1, g2, g3, g4, g5⟩ := hG
  have hfr := h.free 2
  have hi' : (i : Int) < (gs.length : Int) := by omega
  have KF : ∀ w, Calls Tryd.prog 58 #[.int .i64 g.code] w fun e w' => e = .returned (.int .i64 c) ∧ w' = w := fun w => by rw [← hc]; exact gfold_any w _
  subst h0
  clear h hg hc k0 k3 k4 k5 k6 g1 g2 g3 g4 g5
  unfold tok0
  go_enter Tryd.func52, Tryd.ntmps52
  go_wp2_with fail
  go_quiet ((go_at_call 58; exact Calls.quiet_of_same (KF _)))
  go_wp2_with fail
  generalize hE : Utf8.encode 33 = T
  have HE := hide ((encode_one (c := 33) (by omega)).symm.trans hE)
  have hTs : T.size ≤ 10 := by rw [← HE.out, strOfNums_size]; simp
  have hadd : ∀ w, (Op.stringOp .add T ⟨#[61]⟩).run Tryd.prog w = .ok (.string (T ++ ⟨#[61]⟩)) w := fun w => run_string_add_sum (P := Tryd.prog) w T ⟨#[61]⟩ (by show T.size + 1 ≤ _; omega)
  generalize hU : T ++ (⟨#[61]⟩ : ByteArray) = U at hadd
  have HU := hide hU
  clear hU hTs
  clear hE
  have hbq : Below w.heap.size w ((w.alloc (.cells #[.int .i64 0, .string ⟨#[]⟩, .int .i64 0, .int .i64 0, .int .i64 0, .int .i64 0] 35)).drewN nq) := by (repeat' (first | (with_reducible exact Below.refl _ _) | (with_reducible assumption) | (with_reducible refine gdrewN ?_ _) | (with_reducible refine Below.alloc ?_ ?_ _) | (with_reducible refine Below.drew ?_) | (with_reducible refine Below.setCell ?_ ?_ _) | go_size))
  have HT1 := hide ((Tq.of_below (q := q) hbq).set 2 (.int .i64 ((i : Int) + 1)))
  have HS1 := hide ((H.out.below hbq).set (by omega))
  have HT0 : Hid (Tk0B (((w.alloc (.cells #[.int .i64 0, .string ⟨#[]⟩, .int .i64 0, .int .i64 0, .int .i64 0, .int .i64 0] 35)).drewN nq).setCell ⟨q, 2, none⟩ (.int .i64 ((i : Int) + 1))) w.heap.size) := ((heap_setCell_other _ ⟨q, 2, none⟩ w.heap.size _ (by show w.heap.size ≠ q; omega)).trans (heap_alloc_new w _))
  clear hbq k1 k2 hfr g0 hb
  generalize ((w.alloc (.cells #[.int .i64 0, .string ⟨#[]⟩, .int .i64 0, .int .i64 0, .int .i64 0, .int .i64 0] 35)).drewN nq).setCell ⟨q, 2, none⟩ (.int .i64 ((i : Int) + 1)) = w1 at HT1 HS1 HT0 ⊢
  obtain ⟨m, hm⟩ : ∃ m, m = i + 1 := ⟨_, rfl⟩
  rw [← hm] at HS1 hg2
  obtain ⟨b2, off2, e2, hG2⟩ := HS1.out.gls.glyph hg2
  obtain ⟨rfl, rfl⟩ : b2 = b ∧ off2 = off := by simpa [eq_comm] using e2
  obtain ⟨hq1, k0, k1, k2, k3, k4, k5, k6⟩ := HS1.out.cells
  obtain ⟨hb, g0, g1, g2, g3, g4, g5⟩ := hG2
  have hne61 : ((gn.code : Int) != 61) = true := by simp; omega
  have hfr := HS1.out.free 2
  obtain ⟨hfl, t0, t1, t2, t3, t4, t5, f0, f1, f2, f3, f4, f5⟩ := HT0.out.cells
  have hi2 : (m : Int) < (gs.length : Int) := by have := (List.getElem?_eq_some_iff.1 hg2).1; omega
  have hne2 : ((m : Int) == (gs.length : Int)) = false := beq_eq_false_iff_ne.2 (by omega)
  have HM := hide hm
  clear e2 k0 k3 k4 k5 k6 g1 g2 g3 g4 g5 hm
  go_wp2_with fail
  go_quiet (fail)
  clear k1 k2 g0 t0 t1 t2 t3 t4 t5 f0 f1 f2 f3 f4 f5 hfr hfl hb hq1
  have hbq : Below w1.heap.size w1 (w1.drewN nq) := by (repeat' (first | (with_reducible exact Below.refl _ _) | (with_reducible assumption) | (with_reducible refine gdrewN ?_ _) | (with_reducible refine Below.alloc ?_ ?_ _) | (with_reducible refine Below.drew ?_) | (with_reducible refine Below.setCell ?_ ?_ _) | go_size))
  replace HT1 := hide (HT1.out.trans (.of_below hbq))
  replace HS1 := hide (HS1.out.below hbq)
  replace HT0 := hide (HT0.out.below hbq)
  clear hbq
  generalize w1.drewN nq = w2 at HT1 HS1 HT0 ⊢
  generalize hf : w.heap.size = f at *
  replace hf : w.heap.size ≤ f := by omega
  have hqf : q ≠ f := by omega
  obtain ⟨hq1, k0, k1, k2, k3, k4, k5, k6⟩ := HS1.out.cells
  have hfr := HS1.out.free 2
  clear k0 k1 k3 k4 k5 k6
  have hml : (m : Int) < 100000 := by omega
  obtain ⟨hfl, t0, t1, t2, t3, t4, t5, f0, f1, f2, f3, f4, f5⟩ := HT0.out.cells
  clear hne2 hg2 he2 hne61 hi hil KF
  go_wp2
  refine bodyPost_ret (v := _) (by simp [results, Tryd.results52, go_sem, t0, t1, t2, t3, t4, t5]; try rfl) rfl ⟨?_, ?_, ?_⟩
  · refine H.out.of_tq (Tq.six HT1.out hf _ _ _ _ _ _) ((six_other _ _ _ hqf _ _ _ _ _ _).trans ?_) (by have := HM.out; omega)
    rw [HS1.out.blk, HM.out]
  · exact Tq.six HT1.out hf _ _ _ _ _ _
  · rfl
set_option maxRecDepth 20000 in
set_option maxHeartbeats 1000000 in
theorem sign_bang_none (w : World) (q : Nat) (s : ByteArray) (v : Value) (gs : List Gl) (i : Nat) (e : Pl) (h : Scn w q s v gs i e) (hn : gs.length ≤ 100000) (g : Gl) (hg : gs[i]? = some g) (c : Int) (hc : gfold g.code = c) (h0 : c = 33) (hg2 : gs.length ≤ i + 1) :
    Calls Tryd.prog 52 #[.pointer (some ⟨q, 0, none⟩)] w fun r w' => Scn w' q s v gs (i + 1) e ∧ Tq w w' q ∧ r = .returned (.tuple #[tok0, .int .i64 41]) := by
  have H := hide h
  have hi : i < gs.length := (List.getElem?_eq_some_iff.1 hg).1
  have hil : (i : Int) < 100000 := by omega
  obtain ⟨ao, cap, rfl⟩ := h.gls.isSlice
  obtain ⟨b, off, rfl, hG⟩ := h.gls.glyph hg
  obtain ⟨hq, k0, k1, k2, k3, k4, k5, k6⟩ := h.cells
  obtain ⟨hb, g0, g1, g2, g3, g4, g5⟩ := hG
  have hfr := h.free 2
  have hi' : (i : Int) < (gs.length : Int) := by omega
  have KF : ∀ w, Calls Tryd.prog 58 #[.int .i64 g.code] w fun e w' => e = .returned (.int .i64 c) ∧ w' = w := fun w => by rw [← hc]; exact gfold_any w _
  subst h0
  clear h hg hc k0 k3 k4 k5 k6 g1 g2 g3 g4 g5
  unfold tok0
  go_enter Tryd.func52, Tryd.ntmps52
  go_wp2_with fail
  go_quiet ((go_at_call 58; exact Calls.quiet_of_same (KF _)))
  go_wp2_with fail
  generalize hE : Utf8.encode 33 = T
  have HE := hide ((encode_one (c := 33) (by omega)).symm.trans hE)
  have hTs : T.size ≤ 10 := by rw [← HE.out, strOfNums_size]; simp
  have hadd : ∀ w, (Op.stringOp .add T ⟨#[61]⟩).run Tryd.prog w = .ok (.string (T ++ ⟨#[61]⟩)) w := fun w => run_string_add_sum (P := Tryd.prog) w T ⟨#[61]⟩ (by show T.size + 1 ≤ _; omega)
  generalize hU : T ++ (⟨#[61]⟩ : ByteArray) = U at hadd
  have HU := hide hU
  clear hU hTs
  clear hE
  have hbq : Below w.heap.size w ((w.alloc (.cells #[.int .i64 0, .string ⟨#[]⟩, .int .i64 0, .int .i64 0, .int .i64 0, .int .i64 0] 35)).drewN nq) := by (repeat' (first | (with_reducible exact Below.refl _ _) | (with_reducible assumption) | (with_reducible refine gdrewN ?_ _) | (with_reducible refine Below.alloc ?_ ?_ _) | (with_reducible refine Below.drew ?_) | (with_reducible refine Below.setCell ?_ ?_ _) | go_size))
  have HT1 := hide ((Tq.of_below (q := q) hbq).set 2 (.int .i64 ((i : Int) + 1)))
  have HS1 := hide ((H.out.below hbq).set (by omega))
  have HT0 : Hid (Tk0B (((w.alloc (.cells #[.int .i64 0, .string ⟨#[]⟩, .int .i64 0, .int .i64 0, .int .i64 0, .int .i64 0] 35)).drewN nq).setCell ⟨q, 2, none⟩ (.int .i64 ((i : Int) + 1))) w.heap.size) := ((heap_setCell_other _ ⟨q, 2, none⟩ w.heap.size _ (by show w.heap.size ≠ q; omega)).trans (heap_alloc_new w _))
  clear hbq k1 k2 hfr g0 hb
  generalize ((w.alloc (.cells #[.int .i64 0, .string ⟨#[]⟩, .int .i64 0, .int .i64 0, .int .i64 0, .int .i64 0] 35)).drewN nq).setCell ⟨q, 2, none⟩ (.int .i64 ((i : Int) + 1)) = w1 at HT1 HS1 HT0 ⊢
  obtain ⟨m, hm⟩ : ∃ m, m = i + 1 := ⟨_, rfl⟩
  rw [← hm] at HS1
  obtain ⟨hq1, k0, k1, k2, k3, k4, k5, k6⟩ := HS1.out.cells
  obtain ⟨hfl, t0, t1, t2, t3, t4, t5, f0, f1, f2, f3, f4, f5⟩ := HT0.out.cells
  have hne2 : ((m : Int) == (gs.length : Int)) = true := by simp; omega
  have HM := hide hm
  clear k0 k3 k4 k5 k6 hm
  go_wp2_with fail
  go_quiet (fail)
  clear k1 k2 t0 t1 t2 t3 t4 t5 f0 f1 f2 f3 f4 f5 hfl hq1
  have hbq : Below w1.heap.size w1 (w1.drewN nq) := by (repeat' (first | (with_reducible exact Below.refl _ _) | (with_reducible assumption) | (with_reducible refine gdrewN ?_ _) | (with_reducible refine Below.alloc ?_ ?_ _) | (with_reducible refine Below.drew ?_) | (with_reducible refine Below.setCell ?_ ?_ _) | go_size))
  replace HT1 := hide (HT1.out.trans (.of_below hbq))
  replace HS1 := hide (HS1.out.below hbq)
  replace HT0 := hide (HT0.out.below hbq)
  clear hbq
  generalize w1.drewN nq = w2 at HT1 HS1 HT0 ⊢
  generalize hf : w.heap.size = f at *
  replace hf : w.heap.size ≤ f := by omega
  have hqf : q ≠ f := by omega
  obtain ⟨hq1, k0, k1, k2, k3, k4, k5, k6⟩ := HS1.out.cells
  have hfr := HS1.out.free 2
  clear k0 k1 k3 k4 k5 k6
  have hml : (m : Int) < 100001 := by have := HM.out; omega
  obtain ⟨hfl, t0, t1, t2, t3, t4, t5, f0, f1, f2, f3, f4, f5⟩ := HT0.out.cells
  clear hne2 hi hil KF
  go_wp2
  refine bodyPost_ret (v := _) (by simp [results, Tryd.results52, go_sem, t0, t1, t2, t3, t4, t5]; try rfl) rfl ⟨?_, ?_, ?_⟩
  · refine H.out.of_tq (Tq.six HT1.out hf _ _ _ _ _ _) ((six_other _ _ _ hqf _ _ _ _ _ _).trans ?_) (by have := HM.out; omega)
    rw [HS1.out.blk, HM.out]
  · exact Tq.six HT1.out hf _ _ _ _ _ _
  · rfl
end Lm
end Go.Proofs.YtgfglefgpgckiaaDoor

namespace Go.Proofs.YtgfglefgpgckiaaDoor
namespace Lm
open Go Go.RowKit
inductive TO where
  | bad (k : Int) : TO
  | ok (kind : Int) (text : ByteArray) (rest : List Gl) : TO
def signS (c : Int) (r : List Gl) : TO :=
  if c = 8788 then .ok 3 (strOfNums [58, 61]) r
  else if c = 8800 then .ok 3 (strOfNums [33, 61]) r
  else if c = 58 ∨ c = 33 then (match r with | [] => .bad 41 | h :: t => if h.code = 61 then .ok 3 (strOfNums [c, 61]) t else .bad 41)
  else .ok 3 (strOfNums [c]) r
def TokR (s : ByteArray) (e : Pl) (g : Gl) (r : List Gl) (o : TO) : Prop :=
  if gcls g.code = 2 then
    o = if 16 < (g :: r).length - ((g :: r).dropWhile (inC [2, 3, 4])).length then .bad 42 else .ok 1 (s.extract g.pl.b (plf ((g :: r).dropWhile (inC [2, 3, 4])) e).b) ((g :: r).dropWhile (inC [2, 3, 4]))
  else if gcls g.code = 3 then
    ∃ n ds, IsLen (dval (bytesOf (s.extract g.pl.b (plf ((g :: r).dropWhile (inC [3])) e).b))) n ∧ IsDec ds (dval (bytesOf (s.extract g.pl.b (plf ((g :: r).dropWhile (inC [3])) e).b))) ∧ o = if 32 < n then .bad 2 else .ok 2 (strOfNums ds) ((g :: r).dropWhile (inC [3]))
  else if gcls g.code = 5 then o = signS (gfold g.code) r
  else o = .bad 41
theorem tokR_name {s : ByteArray} {e : Pl} {g : Gl} {r : List Gl} (h : gcls g.code = 2) : TokR s e g r (if 16 < (g :: r).length - ((g :: r).dropWhile (inC [2, 3, 4])).length then .bad 42 else .ok 1 (s.extract g.pl.b (plf ((g :: r).dropWhile (inC [2, 3, 4])) e).b) ((g :: r).dropWhile (inC [2, 3, 4]))) := by
  unfold TokR
  rw [if_pos h]
theorem tokR_num {s : ByteArray} {e : Pl} {g : Gl} {r : List Gl} {n : Nat} {ds : List Int} (h : gcls g.code = 3) (h1 : IsLen (dval (bytesOf (s.extract g.pl.b (plf ((g :: r).dropWhile (inC [3])) e).b))) n) (h2 : IsDec ds (dval (bytesOf (s.extract g.pl.b (plf ((g :: r).dropWhile (inC [3])) e).b)))) : TokR s e g r (if 32 < n then .bad 2 else .ok 2 (strOfNums ds) ((g :: r).dropWhile (inC [3]))) := by
  unfold TokR
  rw [if_neg (by omega), if_pos h]
  exact ⟨n, ds, h1, h2, rfl⟩
theorem tokR_sign {s : ByteArray} {e : Pl} {g : Gl} {r : List Gl} (h : gcls g.code = 5) : TokR s e g r (signS (gfold g.code) r) := by
  unfold TokR
  rw [if_neg (by omega), if_neg (by omega), if_pos h]
theorem tokR_other {s : ByteArray} {e : Pl} {g : Gl} {r : List Gl} (h2 : gcls g.code ≠ 2) (h3 : gcls g.code ≠ 3) (h5 : gcls g.code ≠ 5) : TokR s e g r (.bad 41) := by
  unfold TokR
  rw [if_neg h2, if_neg h3, if_neg h5]
theorem TokR.one {s : ByteArray} {e : Pl} {g : Gl} {r : List Gl} {o o' : TO} (h : TokR s e g r o) (h' : TokR s e g r o') : o = o' := by
  unfold TokR at h h'
  by_cases c2 : gcls g.code = 2
  · rw [if_pos c2] at h h'
    rw [h, h']
  · rw [if_neg c2] at h h'
    by_cases c3 : gcls g.code = 3
    · rw [if_pos c3] at h h'
      obtain ⟨n, ds, h1, h2, h3⟩ := h
      obtain ⟨n', ds', h1', h2', h3'⟩ := h'
      rw [h3, h3', isLen_one h1 h1', isDec_one h2 h2']
    · rw [if_neg c3] at h h'
      by_cases c5 : gcls g.code = 5
      · rw [if_pos c5] at h h'
        rw [h, h']
      · rw [if_neg c5] at h h'
        rw [h, h']
structure Tk where
  kind : Int
  text : ByteArray
  pl : Pl
inductive SO where
  | bad (k : Int) (p : Pl) : SO
  | ok (l : List Tk) : SO
def SO.pre (t : Tk) : SO → SO
  | .bad k p => .bad k p
  | .ok l => .ok (t :: l)
def SO.pres (ts : List Tk) : SO → SO
  | .bad k p => .bad k p
  | .ok l => .ok (ts ++ l)
inductive ScanR (s : ByteArray) (e : Pl) : List Gl → SO → Prop
  | done (r : List Gl) (h : skp false r = []) (hb : s.size ≤ e.b) : ScanR s e r (.ok [⟨0, ⟨#[]⟩, e⟩])
  | rune (r : List Gl) (h : skp false r = []) (hb : e.b < s.size) : ScanR s e r (.bad 40 e)
  | bad (r : List Gl) (g : Gl) (t : List Gl) (k : Int) (h : skp false r = g :: t) (ht : TokR s e g t (.bad k)) : ScanR s e r (.bad k g.pl)
  | tok (r : List Gl) (g : Gl) (t : List Gl) (kind : Int) (text : ByteArray) (rest : List Gl) (o : SO) (h : skp false r = g :: t) (ht : TokR s e g t (.ok kind text rest)) (hr : ScanR s e rest o) : ScanR s e r (o.pre ⟨kind, text, g.pl⟩)
theorem ScanR.one {s : ByteArray} {e : Pl} {r : List Gl} {o o' : SO} (h : ScanR s e r o) (h' : ScanR s e r o') : o = o' := by
  induction h generalizing o' with
  | done r h hb =>
    cases h' with
    | done _ _ _ => rfl
    | rune _ _ hb' => omega
    | bad _ g t k h2 _ => rw [h] at h2; cases h2
    | tok _ g t _ _ _ _ h2 _ _ => rw [h] at h2; cases h2
  | rune r h hb =>
    cases h' with
    | done _ _ hb' => omega
    | rune _ _ _ => rfl
    | bad _ g t k h2 _ => rw [h] at h2; cases h2
    | tok _ g t _ _ _ _ h2 _ _ => rw [h] at h2; cases h2
  | bad r g t k h ht =>
    cases h' with
    | done _ h2 _ => rw [h] at h2; cases h2
    | rune _ h2 _ => rw [h] at h2; cases h2
    | bad _ g' t' k' h2 ht' =>
      rw [h] at h2
      obtain ⟨rfl, rfl⟩ := List.cons.inj h2
      have := ht.one ht'
      injection this with e1
      rw [e1]
    | tok _ g' t' _ _ _ _ h2 ht' _ =>
      rw [h] at h2
      obtain ⟨rfl, rfl⟩ := List.cons.inj h2
      have := ht.one ht'
      cases this
  | tok r g t kind text rest o h ht hr ih =>
    cases h' with
    | done _ h2 _ => rw [h] at h2; cases h2
    | rune _ h2 _ => rw [h] at h2; cases h2
    | bad _ g' t' k' h2 ht' =>
      rw [h] at h2
      obtain ⟨rfl, rfl⟩ := List.cons.inj h2
      have := ht.one ht'
      cases this
    | tok _ g' t' _ _ _ _ h2 ht' hr' =>
      rw [h] at h2
      obtain ⟨rfl, rfl⟩ := List.cons.inj h2
      have := ht.one ht'
      injection this with e1 e2 e3
      subst e1 e2 e3
      rw [ih hr']
end Lm
end Go.Proofs.YtgfglefgpgckiaaDoor

namespace Go.Proofs.YtgfglefgpgckiaaDoor
namespace Lm
open Go Go.RowKit
def skc : Bool → List Nat → List Nat
  | _, [] => []
  | true, c :: cs => skc (decide (c ≠ 10)) cs
  | false, c :: cs => if gcls c = 6 then skc true cs else if gcls c = 1 then skc false cs else c :: cs
def inK (ks : List Int) (c : Nat) : Bool := decide (gcls c ∈ ks)
def bts (l : List UInt8) : ByteArray := ⟨l.toArray⟩
def Stop (ks : List Int) (r : List Nat) : Prop := ∀ c t, r = c :: t → inK ks c = false
inductive TokC : List Nat → Int → ByteArray → List Nat → Prop
  | name (c : Nat) (u r : List Nat) (hc : gcls c = 2) (hu : ∀ d ∈ c :: u, inK [2, 3, 4] d = true) (hr : Stop [2, 3, 4] r) (hl : (c :: u).length ≤ 16) : TokC ((c :: u) ++ r) 1 (bts (encs (c :: u))) r
  | num (c : Nat) (u r : List Nat) (n : Nat) (ds : List Int) (hu : ∀ d ∈ c :: u, inK [3] d = true) (hr : Stop [3] r) (hn : IsLen (dval (bytesOf (bts (encs (c :: u))))) n) (hl : n ≤ 32) (hd : IsDec ds (dval (bytesOf (bts (encs (c :: u)))))) : TokC ((c :: u) ++ r) 2 (strOfNums ds) r
  | two (c : Nat) (x : Int) (r : List Nat) (h : (c = 8788 ∧ x = 58) ∨ (c = 8800 ∧ x = 33)) : TokC ([c] ++ r) 3 (strOfNums [x, 61]) r
  | pair (c : Nat) (r : List Nat) (h : c = 58 ∨ c = 33) : TokC ([c, 61] ++ r) 3 (strOfNums [(c : Int), 61]) r
  | sign (c : Nat) (r : List Nat) (hc : gcls c = 5) (h : c ≠ 8788 ∧ c ≠ 8800 ∧ c ≠ 58 ∧ c ≠ 33) : TokC ([c] ++ r) 3 (strOfNums [gfold c]) r
inductive ScanC : List Nat → List (Int × ByteArray) → Prop
  | done (r : List Nat) (h : skc false r = []) : ScanC r [(0, ⟨#[]⟩)]
  | tok (r : List Nat) (k : Int) (x : ByteArray) (rest : List Nat) (ts : List (Int × ByteArray)) (h : TokC (skc false r) k x rest) (hr : ScanC rest ts) : ScanC r ((k, x) :: ts)
theorem adv_append (p : Pl) (a b : List Nat) : adv p (a ++ b) = adv (adv p a) b := by
  induction a generalizing p with
  | nil => rfl
  | cons c a ih => simp only [List.cons_append, adv, ih]
theorem encs_append (a b : List Nat) : encs (a ++ b) = encs a ++ encs b := by
  induction a with
  | nil => rfl
  | cons c a ih => simp only [List.cons_append, encs, ih, List.append_assoc]
theorem plf_glf (p : Pl) (cs : List Nat) : plf (glf p cs) (adv p cs) = p := by
  cases cs <;> rfl
theorem skp_glf (b : Bool) (p : Pl) (cs : List Nat) : ∃ a, cs = a ++ skc b cs ∧ skp b (glf p cs) = glf (adv p a) (skc b cs) := by
  induction cs generalizing b p with
  | nil => exact ⟨[], by cases b <;> rfl, by cases b <;> rfl⟩
  | cons c cs ih =>
    cases b with
    | true =>
      obtain ⟨a, h1, h2⟩ := ih (decide (c ≠ 10)) (p.past c (encL c).length)
      refine ⟨c :: a, ?_, ?_⟩
      · rw [skc, List.cons_append, ← h1]
      · simp only [glf, skp, skc]
        rw [h2]; rfl
    | false =>
      by_cases h6 : gcls c = 6
      · obtain ⟨a, h1, h2⟩ := ih true (p.past c (encL c).length)
        refine ⟨c :: a, ?_, ?_⟩
        · rw [skc, if_pos h6, List.cons_append, ← h1]
        · simp only [glf, skp, skc]
          rw [if_pos h6, if_pos h6, h2]; rfl
      · by_cases h1c : gcls c = 1
        · obtain ⟨a, h1, h2⟩ := ih false (p.past c (encL c).length)
          refine ⟨c :: a, ?_, ?_⟩
          · rw [skc, if_neg h6, if_pos h1c, List.cons_append, ← h1]
          · simp only [glf, skp, skc]
            rw [if_neg h6, if_pos h1c, if_neg h6, if_pos h1c, h2]; rfl
        · refine ⟨[], ?_, ?_⟩
          · rw [skc, if_neg h6, if_neg h1c]; rfl
          · simp only [glf, skp, skc]
            rw [if_neg h6, if_neg h1c, if_neg h6, if_neg h1c]; rfl
theorem dropWhile_glf (ks : List Int) (p : Pl) (cs : List Nat) : ∃ u r, cs = u ++ r ∧ (glf p cs).dropWhile (inC ks) = glf (adv p u) r ∧ (∀ d ∈ u, inK ks d = true) ∧ Stop ks r := by
  induction cs generalizing p with
  | nil => exact ⟨[], [], rfl, rfl, by simp, by intro c t h; cases h⟩
  | cons c cs ih =>
    by_cases hc : inK ks c = true
    · obtain ⟨u, r, h1, h2, h3, h4⟩ := ih (p.past c (encL c).length)
      refine ⟨c :: u, r, by rw [List.cons_append, ← h1], ?_, ?_, h4⟩
      · rw [glf, List.dropWhile_cons_of_pos (show inC ks ⟨c, p⟩ = true from hc), h2]; rfl
      · intro d hd
        rcases List.mem_cons.1 hd with rfl | hd
        · exact hc
        · exact h3 d hd
    · refine ⟨[], c :: cs, rfl, ?_, by simp, ?_⟩
      · rw [glf, List.dropWhile_cons_of_neg (show ¬ inC ks ⟨c, p⟩ = true from hc)]; rfl
      · intro d t h
        obtain ⟨rfl, rfl⟩ := List.cons.inj h
        simpa using hc
theorem stop_one {ks : List Int} : ∀ {u r u' r' : List Nat}, u ++ r = u' ++ r' → (∀ d ∈ u, inK ks d = true) → (∀ d ∈ u', inK ks d = true) → Stop ks r → Stop ks r' → u = u' ∧ r = r'
  | [], r, [], r', h, _, _, _, _ => ⟨rfl, h⟩
  | [], r, c :: u', r', h, _, h2, h3, _ => by
    have := h3 c (u' ++ r') h
    rw [h2 c (by simp)] at this
    cases this
  | c :: u, r, [], r', h, h1, _, _, h4 => by
    have := h4 c (u ++ r) h.symm
    rw [h1 c (by simp)] at this
    cases this
  | c :: u, r, d :: u', r', h, h1, h2, h3, h4 => by
    obtain ⟨rfl, h'⟩ := List.cons.inj h
    obtain ⟨e1, e2⟩ := stop_one h' (fun x hx => h1 x (by simp [hx])) (fun x hx => h2 x (by simp [hx])) h3 h4
    exact ⟨by rw [e1], e2⟩
theorem extract_encs (s : ByteArray) (L : List UInt8) (u r : List Nat) (p : Pl) (hp : p.b = L.length) (h : s.data.toList = L ++ encs (u ++ r)) : s.extract p.b (adv p u).b = bts (encs u) := by
  have hd : (s.extract p.b (adv p u).b).data.toList = encs u := by
    rw [ByteArray.data_extract, Array.toList_extract, List.extract_eq_take_drop, h, encs_append, adv_b, hp, List.drop_left, show L.length + (encs u).length - L.length = (encs u).length from by omega, List.take_left]
  cases hx : s.extract p.b (adv p u).b with
  | mk d =>
    rw [hx] at hd
    unfold bts
    rw [← hd]
theorem gsign_cases {c : Nat} (h1 : c ≠ 8788) (h2 : c ≠ 8800) : gfold c ≠ 8788 ∧ gfold c ≠ 8800 := by
  unfold gfold
  repeat' split
  all_goals omega
theorem gfold_58 {c : Nat} : gfold c = 58 ↔ c = 58 := by
  unfold gfold
  repeat' split
  all_goals omega
theorem gfold_33 {c : Nat} : gfold c = 33 ↔ c = 33 := by
  unfold gfold
  repeat' split
  all_goals omega
theorem tokR_C (s : ByteArray) (L : List UInt8) (c : Nat) (t : List Nat) (p : Pl) (hp : p.b = L.length) (h : s.data.toList = L ++ encs (c :: t)) (k : Int) (x : ByteArray) (rest : List Gl)
    (hT : TokR s (adv p (c :: t)) ⟨c, p⟩ (glf (p.past c (encL c).length) t) (.ok k x rest)) : ∃ v r, c :: t = v ++ r ∧ rest = glf (adv p v) r ∧ TokC (c :: t) k x r := by
  unfold TokR at hT
  have hgl : (⟨c, p⟩ : Gl) :: glf (p.past c (encL c).length) t = glf p (c :: t) := rfl
  rw [hgl] at hT
  simp only at hT
  by_cases c2 : gcls c = 2
  · rw [if_pos c2] at hT
    obtain ⟨u, r, h1, h2, h3, h4⟩ := dropWhile_glf [2, 3, 4] p (c :: t)
    have hcu : ∃ u', u = c :: u' := by
      cases u with
      | nil =>
        have := h4 c t (by simpa using h1.symm)
        simp [inK, c2] at this
      | cons d u' =>
        obtain ⟨rfl, _⟩ := List.cons.inj h1
        exact ⟨u', rfl⟩
    obtain ⟨u', rfl⟩ := hcu
    rw [h2] at hT
    by_cases h16 : 16 < (glf p (c :: t)).length - (glf (adv p (c :: u')) r).length
    · rw [if_pos h16] at hT; cases hT
    · rw [if_neg h16] at hT
      injection hT with e1 e2 e3
      subst e1 e3
      rw [glf_len, glf_len] at h16
      have hpe : plf (glf (adv p (c :: u')) r) (adv p (c :: t)) = adv p (c :: u') := by rw [h1, adv_append, plf_glf]
      rw [hpe, extract_encs s L (c :: u') r p hp (by rw [h, h1])] at e2
      refine ⟨c :: u', r, h1, rfl, ?_⟩
      rw [e2, h1]
      refine .name c u' r c2 h3 h4 ?_
      rw [h1, List.length_append] at h16
      omega
  · rw [if_neg c2] at hT
    by_cases c3 : gcls c = 3
    · rw [if_pos c3] at hT
      obtain ⟨n, ds, hn, hd, hT⟩ := hT
      obtain ⟨u, r, h1, h2, h3, h4⟩ := dropWhile_glf [3] p (c :: t)
      have hcu : ∃ u', u = c :: u' := by
        cases u with
        | nil =>
          have := h4 c t (by simpa using h1.symm)
          simp [inK, c3] at this
        | cons d u' =>
          obtain ⟨rfl, _⟩ := List.cons.inj h1
          exact ⟨u', rfl⟩
      obtain ⟨u', rfl⟩ := hcu
      have hpe : plf (glf (adv p (c :: u')) r) (adv p (c :: t)) = adv p (c :: u') := by rw [h1, adv_append, plf_glf]
      rw [h2, hpe, extract_encs s L (c :: u') r p hp (by rw [h, h1])] at hn hd
      rw [h2] at hT
      by_cases h32 : 32 < n
      · rw [if_pos h32] at hT; cases hT
      · rw [if_neg h32] at hT
        injection hT with e1 e2 e3
        subst e1 e3
        refine ⟨c :: u', r, h1, rfl, ?_⟩
        rw [e2, h1]
        exact .num c u' r n ds h3 h4 hn (by omega) hd
    · rw [if_neg c3] at hT
      by_cases c5 : gcls c = 5
      · rw [if_pos c5] at hT
        unfold signS at hT
        by_cases a1 : gfold c = 8788
        · rw [if_pos a1] at hT
          injection hT with e1 e2 e3
          subst e1 e2 e3
          have hc : c = 8788 := by
            unfold gfold at a1
            repeat' split at a1
            all_goals omega
          exact ⟨[c], t, rfl, rfl, .two c 58 t (.inl ⟨hc, rfl⟩)⟩
        rw [if_neg a1] at hT
        by_cases a2 : gfold c = 8800
        · rw [if_pos a2] at hT
          injection hT with e1 e2 e3
          subst e1 e2 e3
          have hc : c = 8800 := by
            unfold gfold at a2
            repeat' split at a2
            all_goals omega
          exact ⟨[c], t, rfl, rfl, .two c 33 t (.inr ⟨hc, rfl⟩)⟩
        rw [if_neg a2] at hT
        by_cases a3 : gfold c = 58 ∨ gfold c = 33
        · rw [if_pos a3] at hT
          cases t with
          | nil => cases hT
          | cons d t =>
            simp only [glf] at hT
            by_cases hd : d = 61
            · rw [if_pos hd] at hT
              injection hT with e1 e2 e3
              subst e1 e2 e3 hd
              have hc : c = 58 ∨ c = 33 := by
                rcases a3 with a | a
                · exact .inl (gfold_58.1 a)
                · exact .inr (gfold_33.1 a)
              have hg : gfold c = (c : Int) := by rcases hc with rfl | rfl <;> rfl
              rw [hg]
              exact ⟨[c, 61], t, rfl, rfl, .pair c t hc⟩
            · rw [if_neg hd] at hT; cases hT
        · rw [if_neg a3] at hT
          injection hT with e1 e2 e3
          subst e1 e2 e3
          refine ⟨[c], t, rfl, rfl, .sign c t c5 ⟨?_, ?_, ?_, ?_⟩⟩
          · rintro rfl; exact a1 rfl
          · rintro rfl; exact a2 rfl
          · rintro rfl; exact a3 (.inl rfl)
          · rintro rfl; exact a3 (.inr rfl)
      · rw [if_neg c5] at hT; cases hT
theorem tokC_R (s : ByteArray) (L : List UInt8) (cs : List Nat) (p : Pl) (hp : p.b = L.length) (h : s.data.toList = L ++ encs cs) (k : Int) (x : ByteArray) (r : List Nat) (hT : TokC cs k x r) :
    ∃ c t v, cs = c :: t ∧ cs = v ++ r ∧ TokR s (adv p cs) ⟨c, p⟩ (glf (p.past c (encL c).length) t) (.ok k x (glf (adv p v) r)) := by
  cases hT with
  | name c u _ hc hu hr hl =>
    refine ⟨c, u ++ r, c :: u, rfl, rfl, ?_⟩
    obtain ⟨u2, r2, h1, h2, h3, h4⟩ := dropWhile_glf [2, 3, 4] p (c :: u ++ r)
    obtain ⟨e1, e2⟩ := stop_one h1 hu h3 hr h4
    subst e1 e2
    have := tokR_name (s := s) (e := adv p (c :: u ++ r)) (g := ⟨c, p⟩) (r := glf (p.past c (encL c).length) (u ++ r)) hc
    have hgl : (⟨c, p⟩ : Gl) :: glf (p.past c (encL c).length) (u ++ r) = glf p (c :: u ++ r) := rfl
    rw [hgl, h2, if_neg (by rw [glf_len, glf_len, List.length_append]; omega)] at this
    have hpe : plf (glf (adv p (c :: u)) r) (adv p (c :: u ++ r)) = adv p (c :: u) := by rw [adv_append, plf_glf]
    rw [hpe] at this
    rw [← extract_encs s L (c :: u) r p hp h]
    exact this
  | num c u _ n ds hu hr hn hl hd =>
    refine ⟨c, u ++ r, c :: u, rfl, rfl, ?_⟩
    obtain ⟨u2, r2, h1, h2, h3, h4⟩ := dropWhile_glf [3] p (c :: u ++ r)
    obtain ⟨e1, e2⟩ := stop_one h1 hu h3 hr h4
    subst e1 e2
    have hpe : plf (glf (adv p (c :: u)) r) (adv p (c :: u ++ r)) = adv p (c :: u) := by rw [adv_append, plf_glf]
    have hgl : (⟨c, p⟩ : Gl) :: glf (p.past c (encL c).length) (u ++ r) = glf p (c :: u ++ r) := rfl
    have hc : gcls c = 3 := by have := hu c (by simp); simpa [inK] using this
    have := tokR_num (s := s) (e := adv p (c :: u ++ r)) (g := ⟨c, p⟩) (r := glf (p.past c (encL c).length) (u ++ r)) (n := n) (ds := ds) hc (by rw [hgl, h2, hpe, extract_encs s L (c :: u) r p hp h]; exact hn) (by rw [hgl, h2, hpe, extract_encs s L (c :: u) r p hp h]; exact hd)
    rw [hgl, h2, if_neg (by omega)] at this
    exact this
  | two c x _ hh =>
    refine ⟨c, r, [c], rfl, rfl, ?_⟩
    rcases hh with ⟨rfl, rfl⟩ | ⟨rfl, rfl⟩
    · exact tokR_sign (show gcls 8788 = 5 by decide)
    · exact tokR_sign (show gcls 8800 = 5 by decide)
  | pair c _ hh =>
    refine ⟨c, 61 :: r, [c, 61], rfl, rfl, ?_⟩
    rcases hh with rfl | rfl
    · exact tokR_sign (show gcls 58 = 5 by decide)
    · exact tokR_sign (show gcls 33 = 5 by decide)
  | sign c _ hc hh =>
    refine ⟨c, r, [c], rfl, rfl, ?_⟩
    have := tokR_sign (s := s) (e := adv p ([c] ++ r)) (g := ⟨c, p⟩) (r := glf (p.past c (encL c).length) r) hc
    have hf := gsign_cases hh.1 hh.2.1
    unfold signS at this
    simp only at this
    rw [if_neg hf.1, if_neg hf.2, if_neg (by rw [gfold_58, gfold_33]; omega)] at this
    exact this
theorem scanR_C (s : ByteArray) (cs : List Nat) (L : List UInt8) (p : Pl) (hp : p.b = L.length) (h : s.data.toList = L ++ encs cs) (l : List Tk) (hR : ScanR s (adv p cs) (glf p cs) (.ok l)) : ScanC cs (l.map fun t => (t.kind, t.text)) := by
  generalize hg : glf p cs = gs at hR
  generalize he : adv p cs = e at hR
  generalize ho : SO.ok l = o at hR
  induction hR generalizing cs L p l with
  | done r h1 hb =>
    cases ho
    subst hg
    obtain ⟨a, h2, h3⟩ := skp_glf false p cs
    rw [h1] at h3
    refine .done cs ?_
    cases hx : skc false cs with
    | nil => rfl
    | cons c t => rw [hx] at h3; cases h3
  | rune r h1 hb => cases ho
  | bad r g t k h1 ht => cases ho
  | tok r g t kind text rest o h1 ht hr ih =>
    subst hg he
    cases o with
    | bad k p => cases ho
    | ok l' =>
      simp only [SO.pre, SO.ok.injEq] at ho
      subst ho
      obtain ⟨a, h2, h3⟩ := skp_glf false p cs
      rw [h1] at h3
      cases hx : skc false cs with
      | nil => rw [hx] at h3; cases h3
      | cons c t' =>
        rw [hx] at h3 h2
        simp only [glf] at h3
        obtain ⟨rfl, rfl⟩ := List.cons.inj h3
        have hpa : (adv p a).b = (L ++ encs a).length := by rw [adv_b, hp, List.length_append]
        have hsa : s.data.toList = (L ++ encs a) ++ encs (c :: t') := by rw [h, List.append_assoc, ← encs_append, ← h2]
        have hea : adv p cs = adv (adv p a) (c :: t') := by rw [← adv_append, ← h2]
        rw [hea] at ht
        obtain ⟨v, r, h4, rfl, h6⟩ := tokR_C s _ c t' _ hpa hsa _ _ _ ht
        refine .tok cs _ _ r _ (by rw [hx]; exact h6) ?_
        exact ih r ((L ++ encs a) ++ encs v) (adv (adv p a) v) (by rw [adv_b, hpa, ← List.length_append]) (by rw [hsa, h4, encs_append, List.append_assoc, List.append_assoc, List.append_assoc]) l' rfl (by rw [hea, h4, adv_append]) rfl
theorem scanC_R (s : ByteArray) (cs : List Nat) (ts : List (Int × ByteArray)) (hC : ScanC cs ts) (L : List UInt8) (p : Pl) (hp : p.b = L.length) (h : s.data.toList = L ++ encs cs) : ∃ l, ScanR s (adv p cs) (glf p cs) (.ok l) ∧ (l.map fun t => (t.kind, t.text)) = ts := by
  induction hC generalizing L p with
  | done r h1 =>
    obtain ⟨a, h2, h3⟩ := skp_glf false p r
    rw [h1] at h3
    refine ⟨[⟨0, ⟨#[]⟩, adv p r⟩], .done _ h3 ?_, rfl⟩
    have : s.data.toList.length = s.size := rfl
    rw [adv_b, hp, ← this, h, List.length_append]
    exact Nat.le_refl _
  | tok r k x rest ts h1 hr ih =>
    obtain ⟨a, h2, h3⟩ := skp_glf false p r
    have hpa : (adv p a).b = (L ++ encs a).length := by rw [adv_b, hp, List.length_append]
    have hsa : s.data.toList = (L ++ encs a) ++ encs (skc false r) := by rw [h, List.append_assoc, ← encs_append, ← h2]
    have hea : adv p r = adv (adv p a) (skc false r) := by rw [← adv_append, ← h2]
    obtain ⟨c, t, v, h4, h5, h6⟩ := tokC_R s _ (skc false r) _ hpa hsa _ _ _ h1
    obtain ⟨l, h7, h8⟩ := ih ((L ++ encs a) ++ encs v) (adv (adv p a) v) (by rw [adv_b, hpa, ← List.length_append]) (by rw [hsa, h5, encs_append, List.append_assoc, List.append_assoc, List.append_assoc])
    refine ⟨⟨k, x, adv p a⟩ :: l, ?_, by simp [h8]⟩
    have h9 : skp false (glf p r) = ⟨c, adv p a⟩ :: glf ((adv p a).past c (encL c).length) t := by rw [h3, h4]; rfl
    rw [← hea] at h6
    have := ScanR.tok (s := s) (e := adv p r) (glf p r) ⟨c, adv p a⟩ (glf ((adv p a).past c (encL c).length) t) k x (glf (adv (adv p a) v) rest) (.ok l) h9 h6 (by rw [hea, h5, adv_append]; exact h7)
    exact this
end Lm
end Go.Proofs.YtgfglefgpgckiaaDoor

namespace Go.Proofs.YtgfglefgpgckiaaDoor
namespace Lm
open Go Go.RowKit
def Pc (u : List Nat) (k : Int) (x : ByteArray) : Prop := ∀ b r, gcls (b : Nat) = 1 → TokC (u ++ b :: r) k x (b :: r)
theorem stop_blank {ks : List Int} {b : Nat} {r : List Nat} (h : gcls b = 1) (hk : (1 : Int) ∉ ks) : Stop ks (b :: r) := by
  intro c t e
  obtain ⟨rfl, _⟩ := List.cons.inj e
  simp [inK, h, hk]
theorem encs_ascii (u : List Nat) (h : ∀ c ∈ u, c < 128) : encs u = u.map Nat.toUInt8 := by
  induction u with
  | nil => rfl
  | cons c u ih =>
    rw [encs, ih (fun d hd => h d (by simp [hd]))]
    unfold encL
    rw [if_pos (h c (by simp))]
    rfl
theorem bts_nums (ds : List Int) (h : ∀ d ∈ ds, 0 ≤ d ∧ d < 128) : strOfNums ds = bts (encs (ds.map Int.toNat)) := by
  rw [encs_ascii _ (by intro c hc; obtain ⟨d, hd, rfl⟩ := List.mem_map.1 hc; have := h d hd; omega)]
  unfold strOfNums bts
  congr 2
  rw [List.map_map]
  rfl
theorem bytesOf_bts (ds : List Int) (h : ∀ d ∈ ds, 0 ≤ d ∧ d < 128) : bytesOf (bts (encs (ds.map Int.toNat))) = ds := by
  rw [encs_ascii _ (by intro c hc; obtain ⟨d, hd, rfl⟩ := List.mem_map.1 hc; have := h d hd; omega)]
  unfold bytesOf bts
  rw [List.map_map]
  simp only [List.map_map]
  conv => rhs; rw [← List.map_id ds]
  apply List.map_congr_left
  intro d hd
  have := h d hd
  simp only [Function.comp_apply, id]
  rw [Nat.toUInt8, UInt8.toNat_ofNat']
  omega
theorem cod_ascii {c : Nat} (h : c < 128) : Cod c := ⟨by omega, .inl (by omega)⟩
theorem gcls_digit_of {c : Nat} (h : 48 ≤ c ∧ c ≤ 57) : gcls (c : Int) = 3 := by
  unfold gcls
  rw [if_neg (by omega), if_neg (by unfold glatin ggreek gcyr; omega), if_pos (by omega)]
theorem gsign_of {c : Int} (h : gcls c = 5) : gsign (gfold c) := by
  unfold gcls at h
  repeat' split at h
  all_goals first | assumption | omega
theorem tokC_piece {cs : List Nat} {k : Int} {x : ByteArray} {r : List Nat} (h : TokC cs k x r) (hc : ∀ c ∈ cs, Cod c) : ∃ u, (∀ c ∈ u, Cod c) ∧ x = bts (encs u) ∧ Pc u k x := by
  cases h with
  | name c u _ h2 hu hr hl =>
    exact ⟨c :: u, fun d hd => hc d (List.mem_append_left _ hd), rfl, fun b t hb => .name c u (b :: t) h2 hu (stop_blank hb (by decide)) hl⟩
  | num c u _ n ds hu hr hn hl hd =>
    have hdig : ∀ d ∈ ds, 0 ≤ d ∧ d < 128 := fun d hd' => by have := hd.1 d hd'; omega
    refine ⟨ds.map Int.toNat, ?_, bts_nums ds hdig, ?_⟩
    · intro c hc'
      obtain ⟨d, hd', rfl⟩ := List.mem_map.1 hc'
      have := hdig d hd'
      exact cod_ascii (by omega)
    · intro b t hb
      have hne : ∃ d es, ds = d :: es := by
        rcases hd.2.2 with ⟨_, h⟩ | ⟨d, es, h, _⟩
        · exact ⟨_, _, h⟩
        · exact ⟨_, _, h⟩
      obtain ⟨d, es, rfl⟩ := hne
      have e1 : bytesOf (bts (encs ((d :: es).map Int.toNat))) = d :: es := bytesOf_bts _ hdig
      have e2 := hd.2.1
      refine .num d.toNat (es.map Int.toNat) (b :: t) n (d :: es) ?_ (stop_blank hb (by decide)) ?_ hl ?_
      · intro c hc'
        obtain ⟨f, hf, rfl⟩ := List.mem_map.1 (show c ∈ (d :: es).map Int.toNat from hc')
        have := hd.1 f hf
        simp only [inK, gcls_digit_of (show 48 ≤ f.toNat ∧ f.toNat ≤ 57 by omega)]
        decide
      · rw [show d.toNat :: es.map Int.toNat = (d :: es).map Int.toNat from rfl, e1, e2]
        exact hn
      · rw [show d.toNat :: es.map Int.toNat = (d :: es).map Int.toNat from rfl, e1]
        exact ⟨hd.1, rfl, by rw [e2]; exact hd.2.2⟩
  | two c x _ hh =>
    rcases hh with ⟨rfl, rfl⟩ | ⟨rfl, rfl⟩
    · exact ⟨[58, 61], by intro c hc'; simp at hc'; exact cod_ascii (by omega), bts_nums [58, 61] (by simp), fun b t _ => .pair 58 (b :: t) (.inl rfl)⟩
    · exact ⟨[33, 61], by intro c hc'; simp at hc'; exact cod_ascii (by omega), bts_nums [33, 61] (by simp), fun b t _ => .pair 33 (b :: t) (.inr rfl)⟩
  | pair c _ hh =>
    refine ⟨[c, 61], by intro c hc'; simp at hc'; exact cod_ascii (by omega), ?_, fun b t _ => .pair c (b :: t) hh⟩
    exact bts_nums [(c : Int), 61] (by intro d hd; simp at hd; omega)
  | sign c _ h5 hh =>
    have hg := gsign_of h5
    have hf := gsign_cases hh.1 hh.2.1
    have h58 : gfold c ≠ 58 := fun h => hh.2.2.1 (gfold_58.1 h)
    have h33 : gfold c ≠ 33 := fun h => hh.2.2.2 (gfold_33.1 h)
    generalize gfold c = d at hg hf h58 h33 ⊢
    unfold gsign at hg
    have key : ∀ e : Nat, gcls (e : Int) = 5 → gfold (e : Int) = (e : Int) → e < 128 → e ≠ 58 → e ≠ 33 → ∃ u, (∀ c ∈ u, Cod c) ∧ strOfNums [(e : Int)] = bts (encs u) ∧ Pc u 3 (strOfNums [(e : Int)]) := by
      intro e g5 gf h1 h2 h3
      refine ⟨[e], by intro c hc'; simp at hc'; subst hc'; exact cod_ascii h1, bts_nums [(e : Int)] (by intro d hd; simp at hd; omega), fun b t _ => ?_⟩
      have := TokC.sign e (b :: t) g5 ⟨by omega, by omega, h2, h3⟩
      rwa [gf] at this
    rcases hg with rfl | rfl | rfl | rfl | rfl | rfl | rfl | rfl | rfl | rfl | rfl | rfl | rfl | rfl | rfl | rfl | rfl | rfl
    · exact key 43 (by decide) (by decide) (by decide) (by decide) (by decide)
    · exact key 45 (by decide) (by decide) (by decide) (by decide) (by decide)
    · exact key 42 (by decide) (by decide) (by decide) (by decide) (by decide)
    · exact key 47 (by decide) (by decide) (by decide) (by decide) (by decide)
    · exact key 37 (by decide) (by decide) (by decide) (by decide) (by decide)
    · exact key 40 (by decide) (by decide) (by decide) (by decide) (by decide)
    · exact key 41 (by decide) (by decide) (by decide) (by decide) (by decide)
    · exact key 123 (by decide) (by decide) (by decide) (by decide) (by decide)
    · exact key 125 (by decide) (by decide) (by decide) (by decide) (by decide)
    · exact key 44 (by decide) (by decide) (by decide) (by decide) (by decide)
    · exact key 59 (by decide) (by decide) (by decide) (by decide) (by decide)
    · exact absurd rfl h58
    · exact key 61 (by decide) (by decide) (by decide) (by decide) (by decide)
    · exact absurd rfl h33
    · exact key 63 (by decide) (by decide) (by decide) (by decide) (by decide)
    · exact key 64 (by decide) (by decide) (by decide) (by decide) (by decide)
    · exact absurd rfl hf.1
    · exact absurd rfl hf.2
theorem gcls_not {c : Nat} {k : Int} (h : gcls (c : Int) = k) (h6 : k ≠ 6) (h1 : k ≠ 1) (t : List Nat) : skc false (c :: t) = c :: t := by
  rw [skc, if_neg (by omega), if_neg (by omega)]
theorem TokC.skc {cs : List Nat} {k : Int} {x : ByteArray} {r : List Nat} (h : TokC cs k x r) : skc false cs = cs := by
  cases h with
  | name c u _ h2 hu hr hl => exact gcls_not h2 (by decide) (by decide) _
  | num c u _ n ds hu hr hn hl hd =>
    have h3 : gcls (c : Int) = 3 := by have := hu c (by simp); simpa [inK] using this
    exact gcls_not h3 (by decide) (by decide) _
  | two c x _ hh =>
    rcases hh with ⟨rfl, rfl⟩ | ⟨rfl, rfl⟩
    · exact gcls_not (c := 8788) (k := 5) (by decide) (by decide) (by decide) _
    · exact gcls_not (c := 8800) (k := 5) (by decide) (by decide) (by decide) _
  | pair c _ hh =>
    rcases hh with rfl | rfl
    · exact gcls_not (c := 58) (k := 5) (by decide) (by decide) (by decide) _
    · exact gcls_not (c := 33) (k := 5) (by decide) (by decide) (by decide) _
  | sign c _ h5 hh => exact gcls_not h5 (by decide) (by decide) _
theorem skc_blank {b : Nat} (h : gcls (b : Int) = 1) (r : List Nat) : skc false (b :: r) = skc false r := by
  rw [skc, if_neg (by omega), if_pos h]
theorem ScanC.blank {b : Nat} {r : List Nat} {ts : List (Int × ByteArray)} (h : gcls (b : Int) = 1) (hr : ScanC r ts) : ScanC (b :: r) ts := by
  cases hr with
  | done _ h1 => exact .done _ (by rw [skc_blank h]; exact h1)
  | tok _ k x rest ts h1 h2 => exact .tok _ k x rest ts (by rw [skc_blank h]; exact h1) h2
theorem scan_pieces {b : Nat} (hb : gcls (b : Int) = 1) (tail : List Nat) (ht : skc false tail = []) (ps : List (List Nat × Int × ByteArray)) (hp : ∀ p ∈ ps, Pc p.1 p.2.1 p.2.2) :
    ScanC ((ps.flatMap fun p => p.1 ++ [b]) ++ tail) ((ps.map fun p => p.2) ++ [(0, ⟨#[]⟩)]) := by
  induction ps with
  | nil => exact .done _ ht
  | cons p ps ih =>
    have h1 := hp p (by simp) b ((ps.flatMap fun p => p.1 ++ [b]) ++ tail) hb
    have e : ((p :: ps).flatMap fun p => p.1 ++ [b]) ++ tail = p.1 ++ b :: ((ps.flatMap fun p => p.1 ++ [b]) ++ tail) := by simp [List.flatMap_cons]
    rw [e]
    exact .tok _ _ _ _ _ (by rw [h1.skc]; exact h1) (.blank hb (ih (fun q hq => hp q (by simp [hq]))))
theorem ScanC.pieces {cs : List Nat} {ts : List (Int × ByteArray)} (h : ScanC cs ts) (hc : ∀ c ∈ cs, Cod c) : ∃ l, ts = l ++ [(0, ⟨#[]⟩)] ∧ ∀ t ∈ l, (∃ u, (∀ c ∈ u, Cod c) ∧ t.2 = bts (encs u) ∧ Pc u t.1 t.2) ∧ (t.1 = 1 ∨ t.1 = 2 ∨ t.1 = 3) := by
  induction h with
  | done r h1 => exact ⟨[], rfl, by simp⟩
  | tok r k x rest ts h1 h2 ih =>
    obtain ⟨a, hsp, _⟩ := skp_glf false pl0 r
    have hc1 : ∀ c ∈ Lm.skc false r, Cod c := fun c h => hc c (by rw [hsp]; exact List.mem_append_right _ h)
    have hc2 : ∀ c ∈ rest, Cod c := by
      intro c hcr
      have hsub : ∀ {q : List Nat} {k : Int} {x : ByteArray} {r : List Nat}, TokC q k x r → ∀ d ∈ r, d ∈ q := by
        intro q k x r h d hd
        cases h <;> exact List.mem_append_right _ hd
      exact hc1 c (hsub h1 c hcr)
    obtain ⟨l, e1, h3⟩ := ih hc2
    refine ⟨(k, x) :: l, by rw [e1]; rfl, ?_⟩
    intro t ht
    rcases List.mem_cons.1 ht with rfl | ht
    · refine ⟨tokC_piece h1 hc1, ?_⟩
      generalize Lm.skc false r = q at h1
      cases h1 <;> simp
    · exact h3 t ht
theorem skc_split (c : Bool) (cs : List Nat) : ∃ a c', cs = a ++ skc c cs ∧ ∀ r, skc c (a ++ r) = skc c' r := by
  induction cs generalizing c with
  | nil => exact ⟨[], c, by cases c <;> rfl, fun r => rfl⟩
  | cons d cs ih =>
    cases c with
    | true =>
      obtain ⟨a, c', h1, h2⟩ := ih (decide (d ≠ 10))
      refine ⟨d :: a, c', by rw [skc, List.cons_append, ← h1], fun r => ?_⟩
      rw [List.cons_append, skc, h2]
    | false =>
      by_cases h6 : gcls (d : Int) = 6
      · obtain ⟨a, c', h1, h2⟩ := ih true
        refine ⟨d :: a, c', by rw [skc, if_pos h6, List.cons_append, ← h1], fun r => ?_⟩
        rw [List.cons_append, skc, if_pos h6, h2]
      · by_cases h1c : gcls (d : Int) = 1
        · obtain ⟨a, c', h1, h2⟩ := ih false
          refine ⟨d :: a, c', by rw [skc, if_neg h6, if_pos h1c, List.cons_append, ← h1], fun r => ?_⟩
          rw [List.cons_append, skc, if_neg h6, if_pos h1c, h2]
        · exact ⟨[], false, by rw [skc, if_neg h6, if_neg h1c]; rfl, fun r => rfl⟩
theorem skc_len (c : Bool) (cs : List Nat) : (skc c cs).length ≤ cs.length := by
  obtain ⟨a, c', h1, _⟩ := skc_split c cs
  have := congrArg List.length h1
  rw [List.length_append] at this
  omega
theorem skc_head {c : Bool} {x : Nat} {y : List Nat} (h : skc c (x :: y) = x :: y) (y' : List Nat) : skc c (x :: y') = x :: y' := by
  have hl : ∀ c', skc c' y ≠ x :: y := by
    intro c' he
    have := skc_len c' y
    rw [he] at this
    simp at this
    omega
  cases c with
  | true => rw [skc] at h; exact absurd h (hl _)
  | false =>
    rw [skc] at h
    by_cases h6 : gcls (x : Int) = 6
    · rw [if_pos h6] at h; exact absurd h (hl _)
    · rw [if_neg h6] at h
      by_cases h1 : gcls (x : Int) = 1
      · rw [if_pos h1] at h; exact absurd h (hl _)
      · rw [skc, if_neg h6, if_neg h1]
theorem skc_idem (c : Bool) (cs : List Nat) : skc false (skc c cs) = skc c cs := by
  induction cs generalizing c with
  | nil => cases c <;> rfl
  | cons d cs ih =>
    cases c with
    | true => rw [skc]; exact ih _
    | false =>
      rw [skc]
      by_cases h6 : gcls (d : Int) = 6
      · rw [if_pos h6]; exact ih _
      · rw [if_neg h6]
        by_cases h1 : gcls (d : Int) = 1
        · rw [if_pos h1]; exact ih _
        · rw [if_neg h1, skc, if_neg h6, if_neg h1]
theorem TokC.behind {v r : List Nat} {k : Int} {x : ByteArray} (h : TokC (v ++ r) k x r) (r2 : List Nat) (h2 : ∀ c t, r2 = c :: t → gcls (c : Int) = 1 ∨ ∃ t', r = c :: t') : TokC (v ++ r2) k x r2 := by
  have hst : ∀ ks, (1 : Int) ∉ ks → Stop ks r → Stop ks r2 := by
    intro ks hk hs c t e
    rcases h2 c t e with h | ⟨t', h⟩
    · simp [inK, h, hk]
    · exact hs c t' h
  generalize hq : v ++ r = q at h
  cases h with
  | name c u _ hc hu hr hl =>
    obtain rfl := List.append_cancel_right hq
    exact .name c u r2 hc hu (hst _ (by decide) hr) hl
  | num c u _ n ds hu hr hn hl hd =>
    obtain rfl := List.append_cancel_right hq
    exact .num c u r2 n ds hu (hst _ (by decide) hr) hn hl hd
  | two c x _ hh =>
    obtain rfl := List.append_cancel_right hq
    exact .two c x r2 hh
  | pair c _ hh =>
    obtain rfl := List.append_cancel_right hq
    exact .pair c r2 hh
  | sign c _ h5 hh =>
    obtain rfl := List.append_cancel_right hq
    exact .sign c r2 h5 hh
structure Ins (ins : List Nat) : Prop where
  head : ∃ b t, ins = b :: t ∧ gcls (b : Int) = 1
  skip : ∀ c r, skc c (ins ++ r) = skc false r
theorem scan_ins (s : ByteArray) (ins : List Nat) (hI : Ins ins) (cs : List Nat) (L : List UInt8) (p : Pl) (hp : p.b = L.length) (h : s.data.toList = L ++ encs cs) (l : List Tk) (hR : ScanR s (adv p cs) (glf p cs) (.ok l)) (i : Nat) (t : Tk) (ht : l[i]? = some t) :
    ∃ a r, cs = a ++ r ∧ t.pl = adv p a ∧ ScanC (a ++ (ins ++ r)) (l.map fun t => (t.kind, t.text)) := by
  generalize hg : glf p cs = gs at hR
  generalize he : adv p cs = e at hR
  generalize ho : SO.ok l = o at hR
  induction hR generalizing cs L p l i with
  | done r h1 hb =>
    cases ho
    subst hg he
    have hi : i = 0 ∧ t = ⟨0, ⟨#[]⟩, adv p cs⟩ := by
      cases i with
      | zero => exact ⟨rfl, by simpa using ht.symm⟩
      | succ i => simp at ht
    obtain ⟨rfl, rfl⟩ := hi
    obtain ⟨a, h2, h3⟩ := skp_glf false p cs
    rw [h1] at h3
    have hx : skc false cs = [] := by
      cases hx : skc false cs with
      | nil => rfl
      | cons c t => rw [hx] at h3; cases h3
    obtain ⟨a', c', h4, h5⟩ := skc_split false cs
    rw [hx, List.append_nil] at h4
    subst h4
    exact ⟨cs, [], by simp, rfl, .done _ (by rw [h5, hI.skip]; rfl)⟩
  | rune r h1 hb => cases ho
  | bad r g t k h1 ht => cases ho
  | tok r g t' kind text rest o h1 hT hr ih =>
    subst hg he
    cases o with
    | bad k p => cases ho
    | ok l' =>
      simp only [SO.pre, SO.ok.injEq] at ho
      subst ho
      obtain ⟨a, h2, h3⟩ := skp_glf false p cs
      obtain ⟨a2, c', h2', hsk⟩ := skc_split false cs
      obtain rfl : a2 = a := List.append_cancel_right (h2'.symm.trans h2)
      have hid := skc_idem false cs
      rw [h1] at h3
      cases hx : skc false cs with
      | nil => rw [hx] at h3; cases h3
      | cons c t'' =>
        rw [hx] at h3 h2 hid
        simp only [glf] at h3
        obtain ⟨rfl, rfl⟩ := List.cons.inj h3
        have hpa : (adv p a2).b = (L ++ encs a2).length := by rw [adv_b, hp, List.length_append]
        have hsa : s.data.toList = (L ++ encs a2) ++ encs (c :: t'') := by rw [h, List.append_assoc, ← encs_append, ← h2]
        have hea : adv p cs = adv (adv p a2) (c :: t'') := by rw [← adv_append, ← h2]
        rw [hea] at hT
        have hself : skc c' (c :: t'') = c :: t'' := by rw [← hsk, ← h2, hx]
        obtain ⟨v, r, h4, rfl, h6⟩ := tokR_C s _ c t'' _ hpa hsa _ _ _ hT
        cases i with
        | zero =>
          simp at ht
          subst ht
          refine ⟨a2, c :: t'', h2, rfl, ?_⟩
          refine .tok _ _ _ r _ (by rw [hsk, hI.skip, hid]; exact h6) ?_
          exact scanR_C s r ((L ++ encs a2) ++ encs v) (adv (adv p a2) v) (by rw [adv_b, hpa, ← List.length_append]) (by rw [hsa, h4, encs_append, List.append_assoc, List.append_assoc, List.append_assoc]) l' (by rw [hea, h4, adv_append] at hr; exact hr)
        | succ i =>
          obtain ⟨a3, r3, h7, h8, h9⟩ := ih r ((L ++ encs a2) ++ encs v) (adv (adv p a2) v) (by rw [adv_b, hpa, ← List.length_append]) (by rw [hsa, h4, encs_append, List.append_assoc, List.append_assoc, List.append_assoc]) l' i (by simpa using ht) rfl (by rw [hea, h4, adv_append]) rfl
          refine ⟨a2 ++ v ++ a3, r3, ?_, ?_, ?_⟩
          · rw [h2, h4, h7]; simp
          · rw [h8, adv_append, adv_append]
          · have hv : ∃ v', v = c :: v' := by
              cases v with
              | nil =>
                exfalso
                rw [List.nil_append] at h4
                subst h4
                generalize hq : c :: t'' = q at h6
                have hlen : ∀ {cs k x r}, TokC cs k x r → r.length < cs.length := by
                  intro cs k x r h
                  cases h <;> simp <;> omega
                have := hlen h6
                rw [← hq] at this
                omega
              | cons d v' =>
                obtain ⟨rfl, _⟩ := List.cons.inj h4
                exact ⟨v', rfl⟩
            obtain ⟨v', rfl⟩ := hv
            have e : a2 ++ (c :: v') ++ a3 ++ (ins ++ r3) = a2 ++ (c :: (v' ++ (a3 ++ (ins ++ r3)))) := by simp
            rw [e]
            refine .tok _ _ _ (a3 ++ (ins ++ r3)) _ ?_ h9
            rw [hsk, skc_head hself]
            rw [h4] at h6
            refine TokC.behind h6 (a3 ++ (ins ++ r3)) ?_
            intro d t3 hd
            cases a3 with
            | nil =>
              obtain ⟨b, t4, hb, hb1⟩ := hI.head
              rw [hb] at hd
              obtain ⟨rfl, _⟩ := List.cons.inj hd
              exact .inl hb1
            | cons d' a3 =>
              obtain ⟨rfl, _⟩ := List.cons.inj hd
              exact .inr ⟨a3 ++ r3, by rw [h7]; rfl⟩
end Lm
end Go.Proofs.YtgfglefgpgckiaaDoor

namespace Go.Proofs
open Go.Shelf
shelf_lay Lays.n197 Nm 197 at Tryd as Tryd.lays197
namespace YtgfglefgpgckiaaDoor
namespace Lm
open Go Go.RowKit
def Tabs (w : World) : Prop := Lib.Utf8Tabs (Tryd.lays197_ren.g 3) (Tryd.lays197_ren.g 4) w
theorem Tabs.below {w w' : World} (h : Tabs w) (hb : Below w.heap.size w w') : Tabs w' := Utf8Tabs_below h hb
theorem decode_any (w : World) (s : ByteArray) (hT : Tabs w) :
    Calls Tryd.prog 48 #[.string s] w fun e w' => e = .returned (.tuple #[.int .i32 (Lib.decodeGo s).1, .int .i64 (Lib.decodeGo s).2]) ∧ Below w.heap.size w w' := Any.utf8_DecodeRuneInString Tryd.lays197 s w hT
end Lm
end YtgfglefgpgckiaaDoor
end Go.Proofs

namespace Go.Proofs.YtgfglefgpgckiaaDoor
namespace Lm
open Go Go.RowKit
theorem get!_out (s : ByteArray) (k : Nat) (h : s.size ≤ k) : (s.get! k).toNat = 0 := by
  cases s with
  | mk d =>
    have : d[k]! = default := getElem!_neg d k (by simpa [ByteArray.size] using h)
    show (d[k]!).toNat = 0
    rw [this]
    rfl
theorem decodeGo_at (s : ByteArray) (i : Nat) (h : i < s.size) : Lib.decodeGo (s.extract i s.size) = Utf8.decode s i := by
  have hsz : (s.extract i s.size).size = s.size - i := by rw [ByteArray.size_extract]; omega
  rw [Lib.decodeGo, if_neg (by omega), Lib.decode_at, Lib.decode_at, hsz]
  have key : ∀ k, ((s.extract i s.size).get! k).toNat = (s.get! (i + k)).toNat := by
    intro k
    by_cases hk : k < s.size - i
    · have h1 := get!_getD (s.extract i s.size) k (by omega)
      have h2 := get!_getD s (i + k) (by omega)
      rw [bytesOf_extract, List.getD_eq_getElem?_getD, List.getElem?_take_of_lt (by omega), List.getElem?_drop, ← List.getD_eq_getElem?_getD] at h1
      rw [h1] at h2
      exact_mod_cast h2
    · rw [get!_out _ _ (by omega), get!_out _ _ (by omega)]
  simp only [key, Nat.zero_add, Nat.add_zero, Nat.sub_zero]
theorem own_keep {w w' : World} {B : Nat} {e : TypeId} {size n : Nat} {v : Value} {xs : List Value} (h : w.ownsRow B e size v n xs) (hk : ∀ k o, B ≤ k → w.heap[k]? = some o → w'.heap[k]? = some o) : w'.ownsRow B e size v n xs := by
  obtain ⟨hl, h1 | ⟨g, cap, cur, rfl, hb, hh, h2⟩⟩ := h
  · exact ⟨hl, .inl h1⟩
  · exact ⟨hl, .inr ⟨g, cap, cur, rfl, hb, hk g _ hb hh, h2⟩⟩
theorem own_below {w w' : World} {B : Nat} {e : TypeId} {size n : Nat} {v : Value} {xs : List Value} (h : w.ownsRow B e size v n xs) (hb : Below w.heap.size w w') : w'.ownsRow B e size v n xs :=
  own_keep h fun k _ _ hk => (hb.block k (lt_of_heap hk)).trans hk
theorem own_mono {w : World} {B B' : Nat} {e : TypeId} {size n : Nat} {v : Value} {xs : List Value} (h : w.ownsRow B e size v n xs) (hB : B' ≤ B) : w.ownsRow B' e size v n xs := by
  obtain ⟨hl, h1 | ⟨g, cap, cur, rfl, hb, hh, h2⟩⟩ := h
  · exact ⟨hl, .inl h1⟩
  · exact ⟨hl, .inr ⟨g, cap, cur, rfl, Nat.le_trans hB hb, hh, h2⟩⟩
structure Sou (w wr : World) (s : ByteArray) (acc : List Gl) (p : Pl) (pos : Nat) (gv : Value) : Prop where
  own : wr.ownsRow (w.heap.size + 2) 46 6 gv acc.length (gflat acc)
  plc : PlB wr w.heap.size p
  itr : wr.heap[w.heap.size + 1]? = some (.stringIter s pos)
  bel : Below w.heap.size w wr
  siz : w.heap.size + 2 ≤ wr.heap.size
theorem Sou.below {w wr w' : World} {s : ByteArray} {acc : List Gl} {p : Pl} {pos : Nat} {v : Value} (h : Sou w wr s acc p pos v) (hb : Below wr.heap.size wr w') : Sou w w' s acc p pos v :=
  ⟨own_below h.own hb, h.plc.below hb, (hb.block _ (by have := h.siz; omega)).trans h.itr, h.bel.trans (hb.mono h.bel.size), Nat.le_trans h.siz hb.size⟩
theorem Sou.iterAt {w wr : World} {s : ByteArray} {acc : List Gl} {p : Pl} {pos : Nat} {v : Value} (h : Sou w wr s acc p pos v) (pos' : Nat) : Sou w (wr.iterAt (w.heap.size + 1) s pos') s acc p pos' v :=
  ⟨own_keep h.own fun k _ hk he => (Lib.iterAt_other wr _ k s pos' (by omega)).trans he, (Lib.iterAt_other wr _ _ s pos' (by omega)).trans h.plc, Lib.iterAt_heap wr _ s pos pos' h.itr, Lib.below_iterAt h.bel (by omega) s pos', by rw [Lib.iterAt_size]; exact h.siz⟩
theorem Sou.more {w wr w1 : World} {s : ByteArray} {acc : List Gl} {p : Pl} {pos : Nat} {v v' : Value} {g : Gl} (h : Sou w wr s acc p pos v) (hg : wr.grownBy w1 v.ownBlock) (hown : w1.ownsRow (w.heap.size + 2) 46 6 v' (acc ++ [g]).length (gflat (acc ++ [g]))) : Sou w w1 s (acc ++ [g]) p pos v' := by
  have hrow : ∀ k, k < w.heap.size + 2 → some k ≠ v.ownBlock := by
    intro k hk
    obtain ⟨hl, ⟨rfl, _⟩ | ⟨b, cap, cur, rfl, hb, _⟩⟩ := h.own
    · simp [Value.ownBlock]
    · simp only [Value.ownBlock, ne_eq, Option.some.injEq]
      omega
  have hz := h.siz
  exact ⟨hown, (hg.block _ (by omega) (hrow _ (by omega))).trans h.plc, (hg.block _ (by omega) (hrow _ (by omega))).trans h.itr, ⟨hg.os.trans h.bel.os, hg.tape.trans h.bel.tape, hg.output.trans h.bel.output, Nat.le_trans h.bel.size hg.size, fun k hk => (hg.block k (by omega) (hrow k (by omega))).trans (h.bel.block k hk)⟩, Nat.le_trans h.siz hg.size⟩
theorem Sou.place {w wr : World} {s : ByteArray} {acc : List Gl} {p p' : Pl} {pos : Nat} {v : Value} (h : Sou w wr s acc p pos v) : Sou w ((((wr.setCell ⟨w.heap.size, 0, none⟩ (.int .i64 p'.b)).setCell ⟨w.heap.size, 1, none⟩ (.int .i64 p'.g)).setCell ⟨w.heap.size, 2, none⟩ (.int .i64 p'.l)).setCell ⟨w.heap.size, 3, none⟩ (.int .i64 p'.c)) s acc p' pos v := by
  have ho : ∀ k, k ≠ w.heap.size → ((((wr.setCell ⟨w.heap.size, 0, none⟩ (.int .i64 p'.b)).setCell ⟨w.heap.size, 1, none⟩ (.int .i64 p'.g)).setCell ⟨w.heap.size, 2, none⟩ (.int .i64 p'.l)).setCell ⟨w.heap.size, 3, none⟩ (.int .i64 p'.c)).heap[k]? = wr.heap[k]? := by
    intro k hk
    rw [heap_setCell_other _ ⟨w.heap.size, 3, none⟩ k _ hk, heap_setCell_other _ ⟨w.heap.size, 2, none⟩ k _ hk, heap_setCell_other _ ⟨w.heap.size, 1, none⟩ k _ hk, heap_setCell_other _ ⟨w.heap.size, 0, none⟩ k _ hk]
  have hsz : ((((wr.setCell ⟨w.heap.size, 0, none⟩ (.int .i64 p'.b)).setCell ⟨w.heap.size, 1, none⟩ (.int .i64 p'.g)).setCell ⟨w.heap.size, 2, none⟩ (.int .i64 p'.l)).setCell ⟨w.heap.size, 3, none⟩ (.int .i64 p'.c)).heap.size = wr.heap.size := by simp [World.setCell]
  refine ⟨own_keep h.own fun k _ hk he => (ho k (by omega)).trans he, ?_, (ho _ (by omega)).trans h.itr, ⟨h.bel.os, h.bel.tape, h.bel.output, by rw [hsz]; exact h.bel.size, fun k hk => (ho k (by omega)).trans (h.bel.block k hk)⟩, by rw [hsz]; exact h.siz⟩
  unfold PlB
  rw [heap_setCell_same _ _ 3 _ _ _ (heap_setCell_same _ _ 2 _ _ _ (heap_setCell_same _ _ 1 _ _ _ (heap_setCell_same _ _ 0 _ _ _ h.plc)))]
  simp
theorem own_slice {w : World} {B : Nat} {e : TypeId} {size n : Nat} {v : Value} {xs : List Value} (h : w.ownsRow B e size v n xs) : ∃ ao cap, v = .slice ao n cap := by
  obtain ⟨hl, ⟨rfl, rfl⟩ | ⟨g, cap, cur, rfl, _⟩⟩ := h
  · exact ⟨_, _, rfl⟩
  · exact ⟨_, _, rfl⟩
theorem infoG : (Tryd.prog.info? 46).map (fun i => (i.zero, i.size, i.bytes)) = some (some (.agg #[.int .i64 0, .int .i64 0, .int .i64 0, .int .i64 0, .int .i64 0, .int .i64 0]), 6, 48) := by kernel_rfl
theorem info_is {P : Program} {e : TypeId} {z : Value} {n b : Nat} (h : (P.info? e).map (fun i => (i.zero, i.size, i.bytes)) = some (some z, n, b)) : ∃ i, P.info? e = some i ∧ i.zero = some z ∧ i.size = n ∧ i.bytes = b := by
  cases hi : P.info? e with
  | none => rw [hi] at h; cases h
  | some i =>
    rw [hi] at h
    simp only [Option.map_some, Option.some.injEq, Prod.mk.injEq] at h
    exact ⟨i, rfl, h.1, h.2.1, h.2.2⟩
theorem enters_class (args : Array Value) (w : World) : (callFunc 23 args).run Tryd.prog w = .ok (.enter 23 args) w := by
  have h : (match Tryd.prog.funcs[23]? with | some fn => !(fn.name == "runtime.NumGoroutine") && fn.body.isSome | none => false) = true := by kernel_rfl
  cases hf : Tryd.prog.funcs[23]? with
  | none => rw [hf] at h; simp at h
  | some fn =>
    rw [hf] at h
    simp only [Bool.and_eq_true, Bool.not_eq_true', beq_eq_false_iff_ne] at h
    obtain ⟨h1, h2⟩ := h
    have h3 : fn.body ≠ none := by intro hb; rw [hb] at h2; simp at h2
    simp [callFunc, hf, h1, h3]
theorem step_class {ops : Array Oper} {o : Oper} {a : Act} {w : World} {K : Act → World → Prop} {Q : Exit → Act → World → Prop} {E : Prop} (hg : o.guard = none) (x : Operand) (ats : Array TypeId)
    (hop : o.op = .call { callee := .value (.func 23), args := #[x], argTypes := ats }) (c : Int) (hx : a.eval x = .int .i64 c) (hK : K (a.put o.dst (.int .i64 (gcls c))) w) :
    if Region.wanted o (yielded ops a.tmps) = true then Oper.wp Tryd.prog o a w K Q else E := by
  obtain ⟨dst, op, ty, pos, after, guard⟩ := o
  simp only at hop hg
  subst hop hg
  have hw : Region.wanted { dst, op := .call { callee := .value (.func 23), args := #[x], argTypes := ats }, type := ty, pos, after, guard := none } (yielded ops a.tmps) = true := by simp [Region.wanted]
  rw [if_pos hw]
  have e : execOp a.eval { dst, op := .call { callee := .value (.func 23), args := #[x], argTypes := ats }, type := ty, pos, after, guard := none } = callFunc 23 (#[] ++ #[x].map a.eval ++ #[]) := rfl
  unfold Oper.wp
  rw [e, enters_class]
  simp only [Oper.upon]
  have e2 : (#[] ++ #[x].map a.eval ++ #[] : Array Value) = #[.int .i64 c] := by simp [hx]
  rw [e2]
  refine (gcls_any w c).mono ?_
  rintro r w' ⟨rfl, rfl⟩
  exact hK
set_option maxRecDepth 20000 in
set_option maxHeartbeats 2000000 in
theorem sound_any (w : World) (s : ByteArray) (hT : Tabs w) (hs : s.size ≤ 4096) :
    Calls Tryd.prog 27 #[.string s] w fun r w' => ∃ gs e v, Snd s pl0 gs e ∧ r = .returned (.tuple #[v, e.v]) ∧ w'.ownsRow (w.heap.size + 2) 46 6 v gs.length (gflat gs) ∧ Below w.heap.size w w' := by
  go_enter Tryd.func27, Tryd.ntmps27
  go_wp2
  have hS0 : Sou w ((w.alloc (.cells #[.int .i64 0, .int .i64 0, .int .i64 1, .int .i64 1] 25)).iter s 0) s [] pl0 0 (.slice none 0 0) := by
    refine ⟨World.ownsRow_nil _ _ _ _, ?_, ?_, ?_, ?_⟩
    · exact ((Below.refl (w.alloc _).heap.size (w.alloc _)).alloc (Nat.le_refl _) (.stringIter s 0)).block w.heap.size (by simp [World.size_alloc]) |>.trans (heap_alloc_new w _)
    · have := World.iter_heap (w.alloc (.cells #[.int .i64 0, .int .i64 0, .int .i64 1, .int .i64 1] 25)) s 0
      rw [World.size_alloc] at this
      exact this
    · exact ((Below.refl _ _).alloc (Nat.le_refl _) _).alloc (by simp [World.size_alloc]) (.stringIter s 0)
    · show w.heap.size + 2 ≤ ((w.alloc _).alloc (.stringIter s 0)).heap.size
      simp [World.size_alloc]
  generalize (w.alloc (.cells #[.int .i64 0, .int .i64 0, .int .i64 1, .int .i64 1] 25)).iter s 0 = w0 at hS0 ⊢
  have HS0 := hide hS0
  have HT := hide hT
  clear hS0 hT
  go_loopw [2] (fun gv wr => ∃ (acc : List Gl) (p : Pl) (ao : Option Addr) (cap : Nat), gv = .slice ao acc.length cap ∧ Sou w wr s acc p p.b (.slice ao acc.length cap) ∧ p.ok ∧ p.b ≤ s.size ∧ acc.length ≤ p.b ∧ ∀ gs e, Snd s p gs e → Snd s pl0 (acc ++ gs) e) (fun _ wr => s.size - wr.iterPos (w.heap.size + 1))
  case atStart => exact ⟨[], pl0, none, 0, rfl, HS0.out, pl0_ok, Nat.zero_le _, Nat.zero_le _, fun gs e h => h⟩
  case round =>
    obtain ⟨acc, p, ao, cap, rfl, hS, hp, hpb, hal, hpre⟩ := hrel
    have HS := hide hS
    have HP := hide hp
    have HE := hide hpre
    have IP : Hid (wr.iterPos (w.heap.size + 1) = p.b) := by show _ = _; unfold World.iterPos; rw [hS.itr]
    clear hS hp hpre
    by_cases hlt : p.b < s.size
    · have hnext := fun ty => Lib.run_next_any_at (P := Tryd.prog) wr (w.heap.size + 1) s p.b ty HS.out.itr hlt
      have hd := dec_le s p.b hlt
      have htop := dec_top s p.b
      have HDG := hide (decodeGo_at s p.b hlt)
      have HS1 := hide (HS.out.iterAt (p.b + (Utf8.decode s p.b).2))
      have HSG := hide (fun gs e => Snd.go p gs e hlt)
      generalize hdc : Utf8.decode s p.b = dc at *
      have HDC := hide hdc
      clear hdc
      obtain ⟨c, z⟩ := dc
      simp only at hd htop hnext
      generalize wr.iterAt (w.heap.size + 1) s (p.b + z) = w1 at HS1 hnext
      have hlt' : (p.b : Int) < (s.size : Int) := by omega
      go_wp2_with fail
      refine (decode_any _ _ (HT.out.below HS1.out.bel)).mono ?_
      rintro r w2 ⟨rfl, hb2⟩
      rw [HDG.out]
      have HS2 := hide (HS1.out.below hb2)
      clear hb2 hnext HS1
      by_cases hbad : (c, z) = (65533, 1)
      · obtain ⟨rfl, rfl⟩ := Prod.mk.inj hbad
        obtain ⟨hf, p0, p1, p2, p3⟩ := HS2.out.plc.cells
        have f0 := frozen_of_row w2 w.heap.size 0 _ _ HS2.out.plc
        have f1 := frozen_of_row w2 w.heap.size 1 _ _ HS2.out.plc
        have f2 := frozen_of_row w2 w.heap.size 2 _ _ HS2.out.plc
        have f3 := frozen_of_row w2 w.heap.size 3 _ _ HS2.out.plc
        go_wp2_with fail
        go_region
        go_wp2
        refine bodyPost_ret (v := _) (by simp [results, Tryd.results27, go_sem, p0, p1, p2, p3]; try rfl) rfl ⟨acc, p, _, ?_, rfl, ((HS2.out.place (p' := p)).below (by (repeat' (first | (with_reducible exact Below.refl _ _) | (with_reducible assumption) | (with_reducible refine gdrewN ?_ _) | (with_reducible refine Below.alloc ?_ ?_ _) | (with_reducible refine Below.drew ?_) | (with_reducible refine Below.setCell ?_ ?_ _) | go_size)))).own, ((HS2.out.place (p' := p)).below (by (repeat' (first | (with_reducible exact Below.refl _ _) | (with_reducible assumption) | (with_reducible refine gdrewN ?_ _) | (with_reducible refine Below.alloc ?_ ?_ _) | (with_reducible refine Below.drew ?_) | (with_reducible refine Below.setCell ?_ ?_ _) | go_size)))).bel⟩
        have := HE.out [] p (.stop p (.inr ⟨hlt, HDC.out⟩))
        rwa [List.append_nil] at this
      · by_cases h1 : c = 65533
        · subst h1
          have e2 : ((z : Int) == 1) = false := beq_eq_false_iff_ne.2 (by intro hz; exact hbad (by rw [show z = 1 from by omega]))
          obtain ⟨i0, hi0, hz0, hz1, hz2⟩ := info_is infoG
          obtain ⟨hf, p0, p1, p2, p3⟩ := HS2.out.plc.cells
          have hown := HS2.out.own
          have hsz := HS2.out.siz
          have hone : ∀ u ∈ ([.int .i64 65533, .int .i64 (gcls 65533), .int .i64 p.b, .int .i64 p.g, .int .i64 p.l, .int .i64 p.c] : List Value), u.oneCell' = true := by
            intro u hu
            simp only [List.mem_cons, List.not_mem_nil, or_false] at hu
            rcases hu with rfl | rfl | rfl | rfl | rfl | rfl <;> rfl
          go_wp2_with fail
          go_region_law (first | (refine step_class rfl (.tmp 35) #[3] rfl (65533 : Int) (by simp [Act.eval, Act.put]) ?_) | (refine step_append_lies _ rfl (.tmp 33) (.tmp 39) 42 rfl (w.heap.size + 2) 46 i0 _ 6 48 Tryd.underlying42 hi0 hz0 hz1 hz2 rfl (by decide) (.slice ao acc.length cap) acc.length (gflat acc) (by simp [Act.eval]) (own_below hown ((Below.refl _ _).alloc (Nat.le_refl _) _).drew) ⟨w2.heap.size, 0, none⟩ 1 1 [.int .i64 65533, .int .i64 (gcls 65533), .int .i64 p.b, .int .i64 p.g, .int .i64 p.l, .int .i64 p.c] (by simp [Act.eval]) rfl (World.news_of_block (w := (w2.alloc (.cells #[.int .i64 65533, .int .i64 (gcls 65533), .int .i64 p.b, .int .i64 p.g, .int .i64 p.l, .int .i64 p.c] 46)).drew) (heap_alloc_new w2 _)) hone (by omega) (by unfold maxLen; omega) (by omega) (by simp; omega) _ rfl ?_; intro g1 cap1 w3 hown3 hgrow3 hat3 hlt3))
          all_goals
            have HS3 := hide ((HS2.out.below (((Below.refl _ _).alloc (Nat.le_refl _) _).drew)).more (g := ⟨65533, p⟩) hgrow3 (by simpa [gflat_append, gflat] using hown3))
            clear hown3 hgrow3 hat3 hlt3 p0 p1 p2 p3 hf hown hsz hone hi0 hz0 hz1 hz2
            obtain ⟨hf, p0, p1, p2, p3⟩ := HS3.out.plc.cells
            go_wp2_with fail
            refine (behind_any w3 p 65533 z (by have := HP.out.g; have := HP.out.l; have := HP.out.c; omega)).mono ?_
            rintro r w4 ⟨rfl, hb4⟩
            have HS4 := hide (HS3.out.below hb4)
            clear hb4 p0 p1 p2 p3 hf HS3 HS2
            generalize hpp : p.past 65533 z = p' at HS4 ⊢
            have HPP := hide hpp
            clear hpp
            unfold Pl.v
            obtain ⟨hf, p0, p1, p2, p3⟩ := HS4.out.plc.cells
            have f0 := frozen_of_row w4 w.heap.size 0 _ _ HS4.out.plc
            have f1 := frozen_of_row w4 w.heap.size 1 _ _ HS4.out.plc
            have f2 := frozen_of_row w4 w.heap.size 2 _ _ HS4.out.plc
            have f3 := frozen_of_row w4 w.heap.size 3 _ _ HS4.out.plc
            have IP4 := hide ((HS4.out.place (p' := p')).itr)
            go_wp2
            go_roundw
            case rel =>
              have hb' : p'.b = p.b + z := by rw [← HPP.out]; rfl
              refine ⟨acc ++ [⟨65533, p⟩], p', some ⟨g1, 0, none⟩, cap1, by simp, ?_, by rw [← HPP.out]; exact HP.out.past _ _ hd.1, by omega, by simp; omega, ?_⟩
              · have := HS4.out.place (p' := p')
                rw [← hb'] at this
                simpa using this
              · intro gs e h
                rw [List.append_assoc]
                refine HE.out _ _ ?_
                exact HSG.out gs e hbad (by rw [← HPP.out] at h; exact h)
            case measure =>
              rw [IP.out]
              unfold World.iterPos
              rw [IP4.out]
              simp only
              omega
        · have e1 : ((c : Int) == 65533) = false := beq_eq_false_iff_ne.2 (by omega)
          obtain ⟨i0, hi0, hz0, hz1, hz2⟩ := info_is infoG
          obtain ⟨hf, p0, p1, p2, p3⟩ := HS2.out.plc.cells
          have hown := HS2.out.own
          have hsz := HS2.out.siz
          have hone : ∀ u ∈ ([.int .i64 c, .int .i64 (gcls c), .int .i64 p.b, .int .i64 p.g, .int .i64 p.l, .int .i64 p.c] : List Value), u.oneCell' = true := by
            intro u hu
            simp only [List.mem_cons, List.not_mem_nil, or_false] at hu
            rcases hu with rfl | rfl | rfl | rfl | rfl | rfl <;> rfl
          go_wp2_with fail
          go_region_law (first | (refine step_class rfl (.tmp 35) #[3] rfl (c : Int) (by simp [Act.eval, Act.put]) ?_) | (refine step_append_lies _ rfl (.tmp 33) (.tmp 39) 42 rfl (w.heap.size + 2) 46 i0 _ 6 48 Tryd.underlying42 hi0 hz0 hz1 hz2 rfl (by decide) (.slice ao acc.length cap) acc.length (gflat acc) (by simp [Act.eval]) (own_below hown ((Below.refl _ _).alloc (Nat.le_refl _) _).drew) ⟨w2.heap.size, 0, none⟩ 1 1 [.int .i64 c, .int .i64 (gcls c), .int .i64 p.b, .int .i64 p.g, .int .i64 p.l, .int .i64 p.c] (by simp [Act.eval]) rfl (World.news_of_block (w := (w2.alloc (.cells #[.int .i64 c, .int .i64 (gcls c), .int .i64 p.b, .int .i64 p.g, .int .i64 p.l, .int .i64 p.c] 46)).drew) (heap_alloc_new w2 _)) hone (by omega) (by unfold maxLen; omega) (by omega) (by simp; omega) _ rfl ?_; intro g1 cap1 w3 hown3 hgrow3 hat3 hlt3))
          all_goals
            have HS3 := hide ((HS2.out.below (((Below.refl _ _).alloc (Nat.le_refl _) _).drew)).more (g := ⟨c, p⟩) hgrow3 (by simpa [gflat_append, gflat] using hown3))
            clear hown3 hgrow3 hat3 hlt3 p0 p1 p2 p3 hf hown hsz hone hi0 hz0 hz1 hz2
            obtain ⟨hf, p0, p1, p2, p3⟩ := HS3.out.plc.cells
            go_wp2_with fail
            refine (behind_any w3 p c z (by have := HP.out.g; have := HP.out.l; have := HP.out.c; omega)).mono ?_
            rintro r w4 ⟨rfl, hb4⟩
            have HS4 := hide (HS3.out.below hb4)
            clear hb4 p0 p1 p2 p3 hf HS3 HS2
            generalize hpp : p.past c z = p' at HS4 ⊢
            have HPP := hide hpp
            clear hpp
            unfold Pl.v
            obtain ⟨hf, p0, p1, p2, p3⟩ := HS4.out.plc.cells
            have f0 := frozen_of_row w4 w.heap.size 0 _ _ HS4.out.plc
            have f1 := frozen_of_row w4 w.heap.size 1 _ _ HS4.out.plc
            have f2 := frozen_of_row w4 w.heap.size 2 _ _ HS4.out.plc
            have f3 := frozen_of_row w4 w.heap.size 3 _ _ HS4.out.plc
            have IP4 := hide ((HS4.out.place (p' := p')).itr)
            go_wp2
            go_roundw
            case rel =>
              have hb' : p'.b = p.b + z := by rw [← HPP.out]; rfl
              refine ⟨acc ++ [⟨c, p⟩], p', some ⟨g1, 0, none⟩, cap1, by simp, ?_, by rw [← HPP.out]; exact HP.out.past _ _ hd.1, by omega, by simp; omega, ?_⟩
              · have := HS4.out.place (p' := p')
                rw [← hb'] at this
                simpa using this
              · intro gs e h
                rw [List.append_assoc]
                refine HE.out _ _ ?_
                exact HSG.out gs e hbad (by rw [← HPP.out] at h; exact h)
            case measure =>
              rw [IP.out]
              unfold World.iterPos
              rw [IP4.out]
              simp only
              omega
    · have hnext := fun ty => Lib.run_next_end_at (P := Tryd.prog) wr (w.heap.size + 1) s p.b ty HS.out.itr (by omega)
      obtain ⟨hf, p0, p1, p2, p3⟩ := HS.out.plc.cells
      have f0 := frozen_of_row wr w.heap.size 0 _ _ HS.out.plc
      have f1 := frozen_of_row wr w.heap.size 1 _ _ HS.out.plc
      have f2 := frozen_of_row wr w.heap.size 2 _ _ HS.out.plc
      have f3 := frozen_of_row wr w.heap.size 3 _ _ HS.out.plc
      have hlt' : ¬ (p.b : Int) < (s.size : Int) := by omega
      go_wp2_with fail
      go_region
      go_wp2
      refine bodyPost_ret (v := _) (by simp [results, Tryd.results27, go_sem, p0, p1, p2, p3]; try rfl) rfl ⟨acc, p, _, ?_, rfl, ((HS.out.place (p' := p)).below (by (repeat' (first | (with_reducible exact Below.refl _ _) | (with_reducible assumption) | (with_reducible refine gdrewN ?_ _) | (with_reducible refine Below.alloc ?_ ?_ _) | (with_reducible refine Below.drew ?_) | (with_reducible refine Below.setCell ?_ ?_ _) | go_size)))).own, ((HS.out.place (p' := p)).below (by (repeat' (first | (with_reducible exact Below.refl _ _) | (with_reducible assumption) | (with_reducible refine gdrewN ?_ _) | (with_reducible refine Below.alloc ?_ ?_ _) | (with_reducible refine Below.drew ?_) | (with_reducible refine Below.setCell ?_ ?_ _) | go_size)))).bel⟩
      have := HE.out [] p (.stop p (.inl (by omega)))
      rwa [List.append_nil] at this
end Lm
end Go.Proofs.YtgfglefgpgckiaaDoor

namespace Go.Proofs.YtgfglefgpgckiaaDoor
namespace Lm
open Go Go.RowKit
def TokO (w w' : World) (q : Nat) (s : ByteArray) (v : Value) (gs : List Gl) (i : Nat) (e : Pl) (r : Ending) : TO → Prop
  | .bad k => k ≠ 0 ∧ r = .returned (.tuple #[tok0, .int .i64 k]) ∧ Tq w w' q
  | .ok kind text rest => r = .returned (.tuple #[.agg #[.int .i64 kind, .string text, .int .i64 0, .int .i64 0, .int .i64 0, .int .i64 0], .int .i64 0]) ∧ Tq w w' q ∧ ∃ j, i < j ∧ gs.drop j = rest ∧ Scn w' q s v gs j e
structure TokV (w w' : World) (q : Nat) (s : ByteArray) (v : Value) (gs : List Gl) (i : Nat) (e : Pl) (kd : Int) (tx : ByteArray) (k : Int) (o : TO) : Prop where
  out : TokO w w' q s v gs i e (.returned (.tuple #[.agg #[.int .i64 kd, .string tx, .int .i64 0, .int .i64 0, .int .i64 0, .int .i64 0], .int .i64 k])) o
theorem TokO.v {w w' : World} {q : Nat} {s : ByteArray} {v : Value} {gs : List Gl} {i : Nat} {e : Pl} {r : Ending} {o : TO} (h : TokO w w' q s v gs i e r o) : ∃ (kd : Int) (tx : ByteArray) (k : Int), r = .returned (.tuple #[.agg #[.int .i64 kd, .string tx, .int .i64 0, .int .i64 0, .int .i64 0, .int .i64 0], .int .i64 k]) ∧ TokV w w' q s v gs i e kd tx k o := by
  cases o with
  | bad k => exact ⟨_, _, _, h.2.1, ⟨h.1, rfl, h.2.2⟩⟩
  | ok kind text rest => exact ⟨_, _, _, h.1, ⟨rfl, h.2⟩⟩
theorem TokV.six {w w1 w' : World} {q f : Nat} {s : ByteArray} {v : Value} {gs : List Gl} {i : Nat} {e : Pl} {kd : Int} {tx : ByteArray} {k : Int} {o : TO} (h : TokV w1 w' q s v gs i e kd tx k o) (h0 : Scn w q s v gs i e) (hb : Below w.heap.size w w1) (hf : w.heap.size ≤ f) (hqf : q ≠ f) (u0 u1 u2 u3 u4 u5 : Value) :
    TokO w ((((((w'.setCell ⟨f, 0, none⟩ u0).setCell ⟨f, 1, none⟩ u1).setCell ⟨f, 2, none⟩ u2).setCell ⟨f, 3, none⟩ u3).setCell ⟨f, 4, none⟩ u4).setCell ⟨f, 5, none⟩ u5) q s v gs i e (.returned (.tuple #[.agg #[.int .i64 kd, .string tx, .int .i64 0, .int .i64 0, .int .i64 0, .int .i64 0], .int .i64 k])) o := by
  obtain ⟨h⟩ := h
  cases o with
  | bad c => exact ⟨h.1, h.2.1, ((Tq.of_below hb).trans h.2.2).six hf _ _ _ _ _ _⟩
  | ok kind text rest =>
    obtain ⟨h1, h2, j, h3, h4, h5⟩ := h
    exact ⟨h1, ((Tq.of_below hb).trans h2).six hf _ _ _ _ _ _, j, h3, h4, h0.of_tq (((Tq.of_below hb).trans h2).six hf _ _ _ _ _ _) ((six_other _ _ _ hqf _ _ _ _ _ _).trans h5.blk) h5.le⟩
theorem dropWhile_len {α : Type} (p : α → Bool) (l : List α) : (l.dropWhile p).length ≤ l.length := by
  induction l with
  | nil => simp
  | cons a l ih =>
    by_cases h : p a = true
    · rw [List.dropWhile_cons_of_pos h]; simp; omega
    · rw [List.dropWhile_cons_of_neg h]; simp
theorem dropWhile_lt {α : Type} {p : α → Bool} {a : α} {l : List α} (h : p a = true) : ((a :: l).dropWhile p).length < (a :: l).length := by
  rw [List.dropWhile_cons_of_pos h]
  have := dropWhile_len p l
  simp
  omega
theorem drop_lt {gs : List Gl} {i j : Nat} (hi : i < gs.length) (h : (gs.drop j).length < (gs.drop i).length) : i < j := by
  simp at h
  omega
theorem name_t (w : World) (q : Nat) (s : ByteArray) (v : Value) (gs : List Gl) (i : Nat) (e : Pl) (h : Scn w q s v gs i e) (hn : gs.length ≤ 100000) (hQ : Snd s pl0 gs e) (hs : s.size ≤ 4096) (g : Gl) (hd : gs.drop i = g :: gs.drop (i + 1)) (hc : gcls g.code = 2) :
    Calls Tryd.prog 50 #[.pointer (some ⟨q, 0, none⟩)] w fun r w' => ∃ o, TokR s e g (gs.drop (i + 1)) o ∧ TokO w w' q s v gs i e r o := by
  refine (name_any w q s v gs i e h hn hQ (by omega)).mono ?_
  rintro r w' ⟨j, hij, hdj, hS, hT, hr⟩
  have hlt : i < gs.length := by
    apply Classical.byContradiction
    intro hh
    rw [List.drop_eq_nil_of_le (by omega)] at hd
    cases hd
  have hjl := hS.le
  have hl : (g :: gs.drop (i + 1)).length - ((g :: gs.drop (i + 1)).dropWhile (inC [2, 3, 4])).length = j - i := by
    rw [← hd, ← hdj]
    simp
    omega
  have hj : i < j := by
    refine drop_lt hlt ?_
    rw [hdj, hd]
    exact dropWhile_lt (by simp [inC, hc])
  refine ⟨_, tokR_name hc, ?_⟩
  rw [hl]
  rw [hd] at hdj
  rcases hr with ⟨h1, rfl⟩ | ⟨h1, rfl⟩
  · rw [if_pos h1]; exact ⟨by omega, rfl, hT⟩
  · rw [if_neg (by omega), hd, hdj]
    exact ⟨rfl, hT, j, hj, hdj, hS⟩
theorem number_t (w : World) (q : Nat) (s : ByteArray) (v : Value) (gs : List Gl) (i : Nat) (e : Pl) (h : Scn w q s v gs i e) (hn : gs.length ≤ 100000) (hQ : Snd s pl0 gs e) (hs : s.size ≤ 4096) (g : Gl) (hd : gs.drop i = g :: gs.drop (i + 1)) (hc : gcls g.code = 3) :
    Calls Tryd.prog 51 #[.pointer (some ⟨q, 0, none⟩)] w fun r w' => ∃ o, TokR s e g (gs.drop (i + 1)) o ∧ TokO w w' q s v gs i e r o := by
  have hlt : i < gs.length := by
    apply Classical.byContradiction
    intro hh
    rw [List.drop_eq_nil_of_le (by omega)] at hd
    cases hd
  have hin : inC [3] g = true := by simp [inC, hc]
  refine (number_any w q s v gs i e h hn hQ hs ?_).mono ?_
  · have hD := hQ.drop pl0_ok (Nat.zero_le _) i h.le
    rw [hd, List.dropWhile_cons_of_pos hin]
    obtain ⟨m, hm, hml⟩ : ∃ m, (gs.drop (i + 1)).dropWhile (inC [3]) = (gs.drop i).drop m ∧ 1 ≤ m ∧ m ≤ (gs.drop i).length := by
      refine ⟨(gs.drop i).length - ((gs.drop (i + 1)).dropWhile (inC [3])).length, ?_, ?_, ?_⟩
      · have key : ∀ (l : List Gl), l.dropWhile (inC [3]) = l.drop (l.length - (l.dropWhile (inC [3])).length) := by
          intro l
          induction l with
          | nil => rfl
          | cons a l ih =>
            by_cases ha : inC [3] a = true
            · rw [List.dropWhile_cons_of_pos ha]
              have := dropWhile_len (inC [3]) l
              rw [show (a :: l).length - (l.dropWhile (inC [3])).length = (l.length - (l.dropWhile (inC [3])).length) + 1 from by simp; omega, List.drop_succ_cons]
              exact ih
            · rw [List.dropWhile_cons_of_neg ha]; simp
        have := key (gs.drop i)
        rw [hd, List.dropWhile_cons_of_pos hin] at this
        rw [hd]
        exact this
      · have := dropWhile_len (inC [3]) (gs.drop (i + 1)); simp at this ⊢; omega
      · omega
    have h2 := hD.1.drop hD.2.1 hD.2.2.2.1 m hml.2
    rw [hm]
    rw [hd] at h2 ⊢
    have h3 := h2.2.2.1
    omega
  rintro r w' ⟨j, hij, hdj, hS, hT, n, ds, hn1, hds, hr⟩
  have hj : i < j := by
    refine drop_lt hlt ?_
    rw [hdj, hd]
    exact dropWhile_lt hin
  rw [hd] at hdj hn1 hds
  rw [hdj] at hn1 hds
  refine ⟨_, tokR_num hc hn1 hds, ?_⟩
  rcases hr with ⟨h1, rfl⟩ | ⟨h1, rfl⟩
  · rw [if_pos h1]; exact ⟨by omega, rfl, hT⟩
  · rw [if_neg (by omega)]
    exact ⟨rfl, hT, j, hj, hdj, hS⟩
theorem fold_of {g : Gl} (h : gcls g.code = 5) : gsign (gfold g.code) := by
  apply Classical.byContradiction
  intro hn
  unfold gcls at h
  repeat' split at h
  all_goals first | contradiction | omega
theorem sign_t (w : World) (q : Nat) (s : ByteArray) (v : Value) (gs : List Gl) (i : Nat) (e : Pl) (h : Scn w q s v gs i e) (hn : gs.length ≤ 100000) (g : Gl) (hg : gs[i]? = some g) (hc : gcls g.code = 5) :
    Calls Tryd.prog 52 #[.pointer (some ⟨q, 0, none⟩)] w fun r w' => ∃ o, TokR s e g (gs.drop (i + 1)) o ∧ TokO w w' q s v gs i e r o := by
  have hs := fold_of hc
  suffices H : Calls Tryd.prog 52 #[.pointer (some ⟨q, 0, none⟩)] w fun r w' => TokO w w' q s v gs i e r (signS (gfold g.code) (gs.drop (i + 1))) from H.mono (fun r w' h => ⟨_, tokR_sign hc, h⟩)
  generalize hcc : gfold g.code = c at hs ⊢
  unfold signS
  by_cases c1 : c = 8788
  · rw [if_pos c1]
    refine (sign_becomes w q s v gs i e h hn g hg c hcc c1).mono ?_
    rintro r w' ⟨hS, hT, rfl⟩
    exact ⟨rfl, hT, i + 1, by omega, rfl, hS⟩
  · rw [if_neg c1]
    by_cases c2 : c = 8800
    · rw [if_pos c2]
      refine (sign_unlike w q s v gs i e h hn g hg c hcc c2).mono ?_
      rintro r w' ⟨hS, hT, rfl⟩
      exact ⟨rfl, hT, i + 1, by omega, rfl, hS⟩
    · rw [if_neg c2]
      by_cases c3 : c = 58 ∨ c = 33
      · rw [if_pos c3]
        by_cases hl : i + 1 < gs.length
        · rw [List.drop_eq_getElem_cons hl]
          simp only
          have hg2 : gs[i + 1]? = some (gs[i + 1]'hl) := List.getElem?_eq_getElem hl
          by_cases h61 : (gs[i + 1]'hl).code = 61
          · rw [if_pos h61]
            rcases c3 with c3 | c3
            · rw [c3] at hcc ⊢
              refine (sign_colon w q s v gs i e h hn g hg 58 hcc rfl _ hg2 h61).mono ?_
              rintro r w' ⟨hS, hT, rfl⟩
              exact ⟨rfl, hT, i + 2, by omega, rfl, hS⟩
            · rw [c3] at hcc ⊢
              refine (sign_bang w q s v gs i e h hn g hg 33 hcc rfl _ hg2 h61).mono ?_
              rintro r w' ⟨hS, hT, rfl⟩
              exact ⟨rfl, hT, i + 2, by omega, rfl, hS⟩
          · rw [if_neg h61]
            rcases c3 with c3 | c3
            · refine (sign_colon_other w q s v gs i e h hn g hg c hcc c3 _ hg2 h61).mono ?_
              rintro r w' ⟨hS, hT, rfl⟩
              exact ⟨by omega, rfl, hT⟩
            · refine (sign_bang_other w q s v gs i e h hn g hg c hcc c3 _ hg2 h61).mono ?_
              rintro r w' ⟨hS, hT, rfl⟩
              exact ⟨by omega, rfl, hT⟩
        · rw [List.drop_eq_nil_of_le (by omega)]
          simp only
          rcases c3 with c3 | c3
          · refine (sign_colon_none w q s v gs i e h hn g hg c hcc c3 (by omega)).mono ?_
            rintro r w' ⟨hS, hT, rfl⟩
            exact ⟨by omega, rfl, hT⟩
          · refine (sign_bang_none w q s v gs i e h hn g hg c hcc c3 (by omega)).mono ?_
            rintro r w' ⟨hS, hT, rfl⟩
            exact ⟨by omega, rfl, hT⟩
      · rw [if_neg c3]
        refine (sign_one w q s v gs i e h hn g hg c hcc ?_ (by omega) (by omega)).mono ?_
        · unfold gsign at hs; omega
        rintro r w' ⟨hS, hT, rfl⟩
        exact ⟨rfl, hT, i + 1, by omega, rfl, hS⟩
end Lm
end Go.Proofs.YtgfglefgpgckiaaDoor

namespace Go.Proofs.YtgfglefgpgckiaaDoor
namespace Lm
open Go Go.RowKit
theorem TokV.tq {w w' : World} {q : Nat} {s : ByteArray} {v : Value} {gs : List Gl} {i : Nat} {e : Pl} {kd : Int} {tx : ByteArray} {k : Int} {o : TO} (h : TokV w w' q s v gs i e kd tx k o) : Tq w w' q := by
  obtain ⟨h⟩ := h
  cases o with
  | bad c => exact h.2.2
  | ok kind text rest => exact h.2.1
set_option maxRecDepth 20000 in
set_option maxHeartbeats 1000000 in
theorem token_any (w : World) (q : Nat) (s : ByteArray) (v : Value) (gs : List Gl) (i : Nat) (e : Pl) (h : Scn w q s v gs i e) (hn : gs.length ≤ 100000) (hQ : Snd s pl0 gs e) (hs : s.size ≤ 4096) (g : Gl) (hg : gs[i]? = some g) :
    Calls Tryd.prog 30 #[.pointer (some ⟨q, 0, none⟩)] w fun r w' => ∃ o, TokR s e g (gs.drop (i + 1)) o ∧ TokO w w' q s v gs i e r o := by
  have H := hide h
  have hi : i < gs.length := (List.getElem?_eq_some_iff.1 hg).1
  have hd : gs.drop i = g :: gs.drop (i + 1) := by
    rw [List.drop_eq_getElem_cons hi]
    congr 1
    rw [List.getElem?_eq_getElem hi] at hg
    exact Option.some.inj hg
  have HD := hide hd
  obtain ⟨ao, cap, rfl⟩ := h.gls.isSlice
  obtain ⟨b, off, rfl, hG⟩ := h.gls.glyph hg
  obtain ⟨hq, k0, k1, k2, k3, k4, k5, k6⟩ := h.cells
  obtain ⟨hb, g0, g1, g2, g3, g4, g5⟩ := hG
  have hi' : (i : Int) < (gs.length : Int) := by omega
  have HGI := hide hg
  clear h k0 k3 k4 k5 k6 g0 g2 g3 g4 g5 hd hg
  go_enter Tryd.func30, Tryd.ntmps30
  go_wp2_with fail
  go_quiet (fail)
  have hbq : Below w.heap.size w ((w.alloc (.cells #[.int .i64 0, .string ⟨#[]⟩, .int .i64 0, .int .i64 0, .int .i64 0, .int .i64 0] 35)).drewN nq) := by (repeat' (first | (with_reducible exact Below.refl _ _) | (with_reducible assumption) | (with_reducible refine gdrewN ?_ _) | (with_reducible refine Below.alloc ?_ ?_ _) | (with_reducible refine Below.drew ?_) | (with_reducible refine Below.setCell ?_ ?_ _) | go_size))
  have HB := hide hbq
  have HS1 := hide (H.out.below hbq)
  have HT1 : Hid (Tk0B ((w.alloc (.cells #[.int .i64 0, .string ⟨#[]⟩, .int .i64 0, .int .i64 0, .int .i64 0, .int .i64 0] 35)).drewN nq) w.heap.size) := heap_alloc_new w _
  clear hbq k1 k2 g1 hb hi'
  generalize (w.alloc (.cells #[.int .i64 0, .string ⟨#[]⟩, .int .i64 0, .int .i64 0, .int .i64 0, .int .i64 0] 35)).drewN nq = w1 at HB HS1 HT1 ⊢
  generalize hf : w.heap.size = f at *
  have hqf : q ≠ f := by omega
  have hfq : f ≠ q := by omega
  replace HB : Hid (Below w.heap.size w w1) := by rw [hf]; exact HB
  replace hf : w.heap.size ≤ f := by omega
  clear hq
  by_cases hc2 : gcls g.code = 2
  · have n2 : (gcls g.code == 2) = true := by rw [hc2]; rfl
    go_wp2_with fail
    refine (name_t _ q s _ gs i e HS1.out hn hQ hs g HD.out hc2).mono ?_
    rintro r w2 ⟨o, ho, hO⟩
    obtain ⟨kd, tx, k, rfl, hV⟩ := hO.v
    have HV := hide hV
    have HR := hide ho
    have HT0 := hide (HT1.out.tq (hV.tq) hfq)
    clear hO hV ho
    obtain ⟨hfl, t0, t1, t2, t3, t4, t5, f0, f1, f2, f3, f4, f5⟩ := HT0.out.cells
    go_wp2
    refine bodyPost_ret (v := _) (by simp [results, Tryd.results30, go_sem, t0, t1, t2, t3, t4, t5]; try rfl) rfl ⟨o, HR.out, ?_⟩
    exact HV.out.six H.out HB.out hf hqf _ _ _ _ _ _
  by_cases hc3 : gcls g.code = 3
  · have n2 : (gcls g.code == 2) = false := beq_eq_false_iff_ne.2 hc2
    have n3 : (gcls g.code == 3) = true := by rw [hc3]; rfl
    go_wp2_with fail
    refine (number_t _ q s _ gs i e HS1.out hn hQ hs g HD.out hc3).mono ?_
    rintro r w2 ⟨o, ho, hO⟩
    obtain ⟨kd, tx, k, rfl, hV⟩ := hO.v
    have HV := hide hV
    have HR := hide ho
    have HT0 := hide (HT1.out.tq (hV.tq) hfq)
    clear hO hV ho
    obtain ⟨hfl, t0, t1, t2, t3, t4, t5, f0, f1, f2, f3, f4, f5⟩ := HT0.out.cells
    go_wp2
    refine bodyPost_ret (v := _) (by simp [results, Tryd.results30, go_sem, t0, t1, t2, t3, t4, t5]; try rfl) rfl ⟨o, HR.out, ?_⟩
    exact HV.out.six H.out HB.out hf hqf _ _ _ _ _ _
  by_cases hc5 : gcls g.code = 5
  · have n2 : (gcls g.code == 2) = false := beq_eq_false_iff_ne.2 hc2
    have n3 : (gcls g.code == 3) = false := beq_eq_false_iff_ne.2 hc3
    have n5 : (gcls g.code == 5) = true := by rw [hc5]; rfl
    go_wp2_with fail
    refine (sign_t _ q s _ gs i e HS1.out hn g HGI.out hc5).mono ?_
    rintro r w2 ⟨o, ho, hO⟩
    obtain ⟨kd, tx, k, rfl, hV⟩ := hO.v
    have HV := hide hV
    have HR := hide ho
    have HT0 := hide (HT1.out.tq (hV.tq) hfq)
    clear hO hV ho
    obtain ⟨hfl, t0, t1, t2, t3, t4, t5, f0, f1, f2, f3, f4, f5⟩ := HT0.out.cells
    go_wp2
    refine bodyPost_ret (v := _) (by simp [results, Tryd.results30, go_sem, t0, t1, t2, t3, t4, t5]; try rfl) rfl ⟨o, HR.out, ?_⟩
    exact HV.out.six H.out HB.out hf hqf _ _ _ _ _ _
  · have n2 : (gcls g.code == 2) = false := beq_eq_false_iff_ne.2 hc2
    have n3 : (gcls g.code == 3) = false := beq_eq_false_iff_ne.2 hc3
    have n5 : (gcls g.code == 5) = false := beq_eq_false_iff_ne.2 hc5
    obtain ⟨hfl, t0, t1, t2, t3, t4, t5, f0, f1, f2, f3, f4, f5⟩ := HT1.out.cells
    go_wp2
    refine bodyPost_ret (v := _) (by simp [results, Tryd.results30, go_sem, t0, t1, t2, t3, t4, t5]; try rfl) rfl ⟨_, tokR_other hc2 hc3 hc5, by omega, rfl, (Tq.of_below HB.out).six hf _ _ _ _ _ _⟩
end Lm
end Go.Proofs.YtgfglefgpgckiaaDoor

namespace Go.Proofs.YtgfglefgpgckiaaDoor
namespace Lm
open Go Go.RowKit
def tflat : List Tk → List Value
  | [] => []
  | t :: ts => .int .i64 t.kind :: .string t.text :: .int .i64 t.pl.b :: .int .i64 t.pl.g :: .int .i64 t.pl.l :: .int .i64 t.pl.c :: tflat ts
theorem tflat_append (es fs : List Tk) : tflat (es ++ fs) = tflat es ++ tflat fs := by
  induction es with
  | nil => rfl
  | cons e es ih => simp [tflat, ih]
def plz : Pl := ⟨0, 0, 0, 0⟩
theorem infoT : (Tryd.prog.info? 35).map (fun i => (i.zero, i.size, i.bytes)) = some (some (.agg #[.int .i64 0, .string ⟨#[]⟩, .int .i64 0, .int .i64 0, .int .i64 0, .int .i64 0]), 6, 56) := by kernel_rfl
structure ScS (w wr : World) (q f B : Nat) (s : ByteArray) (v : Value) (gs : List Gl) (i : Nat) (e : Pl) (ts : List Tk) (tv : Value) : Prop where
  scn : Scn wr q s v gs i e
  own : wr.ownsRow B 35 6 tv ts.length (tflat ts)
  zer : PlB wr f plz
  bel : Below w.heap.size w wr
  siz : B ≤ wr.heap.size
  fw : w.heap.size ≤ f
  qw : w.heap.size ≤ q
  fq : f ≠ q
  fB : f < B
  qB : q < B
  vB : ∀ b off n c, v = .slice (some ⟨b, off, none⟩) n c → b < B
theorem ScS.below {w wr w' : World} {q f B : Nat} {s : ByteArray} {v : Value} {gs : List Gl} {i : Nat} {e : Pl} {ts : List Tk} {tv : Value} (h : ScS w wr q f B s v gs i e ts tv) (hb : Below wr.heap.size wr w') : ScS w w' q f B s v gs i e ts tv :=
  ⟨h.scn.below hb, own_below h.own hb, h.zer.below hb, h.bel.trans (hb.mono h.bel.size), Nat.le_trans h.siz hb.size, h.fw, h.qw, h.fq, h.fB, h.qB, h.vB⟩
theorem ScS.tq {w wr w' : World} {q f B : Nat} {s : ByteArray} {v : Value} {gs : List Gl} {i j : Nat} {e : Pl} {ts : List Tk} {tv : Value} (h : ScS w wr q f B s v gs i e ts tv) (ht : Tq wr w' q) (hs : Scn w' q s v gs j e) : ScS w w' q f B s v gs j e ts tv :=
  ⟨hs, own_keep h.own fun k _ hk he => (ht.other k (lt_of_heap he) (by have := h.qB; omega)).trans he, h.zer.tq ht h.fq, below_tq h.bel ht h.qw (Nat.le_refl _), Nat.le_trans h.siz ht.size, h.fw, h.qw, h.fq, h.fB, h.qB, h.vB⟩
theorem ScS.more {w wr w1 : World} {q f B : Nat} {s : ByteArray} {v : Value} {gs : List Gl} {i : Nat} {e : Pl} {ts : List Tk} {tv tv' : Value} {t : Tk} (h : ScS w wr q f B s v gs i e ts tv) (hg : wr.grownBy w1 tv.ownBlock) (hown : w1.ownsRow B 35 6 tv' (ts ++ [t]).length (tflat (ts ++ [t]))) : ScS w w1 q f B s v gs i e (ts ++ [t]) tv' := by
  have hrow : ∀ k, k < B → some k ≠ tv.ownBlock := by
    intro k hk
    obtain ⟨hl, ⟨rfl, _⟩ | ⟨b, cap, cur, rfl, hb, _⟩⟩ := h.own
    · simp [Value.ownBlock]
    · simp only [Value.ownBlock, ne_eq, Option.some.injEq]
      omega
  have hz := h.siz
  have hB : ∀ k, k < B → w1.heap[k]? = wr.heap[k]? := fun k hk => hg.block k (by omega) (hrow k hk)
  have hGs : Gs w1 v gs := by
    obtain ⟨ao, cap, rfl, h1, h2, h3, h4⟩ := h.scn.gls
    refine ⟨ao, cap, rfl, h1, h2, h3, ?_⟩
    rcases h4 with h4 | ⟨b, off, rfl, hl, hc⟩
    · exact .inl h4
    · refine .inr ⟨b, off, rfl, Nat.lt_of_lt_of_le hl hg.size, fun j u hu => ?_⟩
      rw [World.cell?_of_block (w := wr) (hB b (h.vB _ _ _ _ rfl))]
      exact hc j u hu
  exact ⟨⟨(hB q h.qB).trans h.scn.blk, hGs, h.scn.le, h.scn.apt⟩, hown, (hB f h.fB).trans h.zer, ⟨hg.os.trans h.bel.os, hg.tape.trans h.bel.tape, hg.output.trans h.bel.output, Nat.le_trans h.bel.size hg.size, fun k hk => (hB k (by have := h.fw; have := h.fB; omega)).trans (h.bel.block k hk)⟩, Nat.le_trans h.siz hg.size, h.fw, h.qw, h.fq, h.fB, h.qB, h.vB⟩
def ScanO (w w' : World) (r : Ending) : SO → Prop
  | .bad k p => r = .returned (.tuple #[.slice none 0 0, .int .i64 k, p.v])
  | .ok l => ∃ v, r = .returned (.tuple #[v, .int .i64 0, plz.v]) ∧ w'.ownsRow w.heap.size 35 6 v l.length (tflat l)
theorem pres_nil (o : SO) : o.pres [] = o := by cases o <;> rfl
theorem pres_pre (ts : List Tk) (t : Tk) (o : SO) : (o.pre t).pres ts = o.pres (ts ++ [t]) := by
  cases o with
  | bad k p => rfl
  | ok l => simp [SO.pre, SO.pres]
end Lm
end Go.Proofs.YtgfglefgpgckiaaDoor

namespace Go.Proofs.YtgfglefgpgckiaaDoor
namespace Lm
open Go Go.RowKit
set_option maxRecDepth 20000 in
set_option maxHeartbeats 1000000 in
theorem scan_long (w : World) (s : ByteArray) (hs : 4096 < s.size) :
    Calls Tryd.prog 11 #[.string s] w fun r w' => Below w.heap.size w w' ∧ r = .returned (.tuple #[.slice none 0 0, .int .i64 2, plz.v]) := by
  have hs' : (4096 : Int) < (s.size : Int) := by omega
  go_enter Tryd.func11, Tryd.ntmps11
  go_wp2
  refine bodyPost_ret (v := _) (by simp [results, Tryd.results11, go_sem]; try rfl) rfl ⟨?_, rfl⟩
  (repeat' (first | (with_reducible exact Below.refl _ _) | (with_reducible assumption) | (with_reducible refine gdrewN ?_ _) | (with_reducible refine Below.alloc ?_ ?_ _) | (with_reducible refine Below.drew ?_) | (with_reducible refine Below.setCell ?_ ?_ _) | go_size))
theorem plB_fill {w : World} {f : Nat} {p p' : Pl} (h : PlB w f p) : PlB ((((w.setCell ⟨f, 0, none⟩ (.int .i64 p'.b)).setCell ⟨f, 1, none⟩ (.int .i64 p'.g)).setCell ⟨f, 2, none⟩ (.int .i64 p'.l)).setCell ⟨f, 3, none⟩ (.int .i64 p'.c)) f p' := by
  unfold PlB
  rw [heap_setCell_same _ _ 3 _ _ _ (heap_setCell_same _ _ 2 _ _ _ (heap_setCell_same _ _ 1 _ _ _ (heap_setCell_same _ _ 0 _ _ _ h)))]
  simp
theorem fill_below {B f : Nat} {w w' : World} (h : Below B w w') (hf : B ≤ f) (u0 u1 u2 u3 : Value) : Below B w ((((w'.setCell ⟨f, 0, none⟩ u0).setCell ⟨f, 1, none⟩ u1).setCell ⟨f, 2, none⟩ u2).setCell ⟨f, 3, none⟩ u3) :=
  (((h.setCell hf _).setCell hf _).setCell hf _).setCell hf _
theorem scs_first {w w1 : World} {s : ByteArray} {ao : Option Addr} {cap : Nat} {gs : List Gl} {e : Pl} (HOWN : w1.ownsRow (w.heap.size + 2 + 2) 46 6 (.slice ao gs.length cap) gs.length (gflat gs)) (HQB : w1.heap[w.heap.size + 1]? = some (.cells #[.string s, .slice none 0 0, .int .i64 0, .int .i64 0, .int .i64 0, .int .i64 0, .int .i64 0] 63 (0, 0))) (HFB : PlB w1 w.heap.size plz) (HB1 : Below w.heap.size w w1) (hs1 : w.heap.size + 2 ≤ w1.heap.size) :
    ScS w (((((w1.setCell ⟨w.heap.size + 1, 1, none⟩ (.slice ao gs.length cap)).setCell ⟨w.heap.size + 1, 3, none⟩ (.int .i64 e.b)).setCell ⟨w.heap.size + 1, 4, none⟩ (.int .i64 e.g)).setCell ⟨w.heap.size + 1, 5, none⟩ (.int .i64 e.l)).setCell ⟨w.heap.size + 1, 6, none⟩ (.int .i64 e.c)) (w.heap.size + 1) w.heap.size w1.heap.size s (.slice ao gs.length cap) gs 0 e [] (.slice none 0 0) := by
  have ht : Tq w1 (((((w1.setCell ⟨w.heap.size + 1, 1, none⟩ (.slice ao gs.length cap)).setCell ⟨w.heap.size + 1, 3, none⟩ (.int .i64 e.b)).setCell ⟨w.heap.size + 1, 4, none⟩ (.int .i64 e.g)).setCell ⟨w.heap.size + 1, 5, none⟩ (.int .i64 e.l)).setCell ⟨w.heap.size + 1, 6, none⟩ (.int .i64 e.c)) (w.heap.size + 1) := (Tq.refl _ _).set 1 _ |>.set 3 _ |>.set 4 _ |>.set 5 _ |>.set 6 _
  have hap : ∀ b off n c, Value.slice ao gs.length cap = .slice (some ⟨b, off, none⟩) n c → b ≠ w.heap.size + 1 ∧ b < w1.heap.size := by
    intro b off n c hv
    obtain ⟨hl, ⟨h1, _⟩ | ⟨g, cap', cur, h1, hb, hh, _⟩⟩ := HOWN
    · rw [h1] at hv; cases hv
    · rw [h1] at hv
      simp only [Value.slice.injEq, Option.some.injEq, Addr.mk.injEq] at hv
      have := lt_of_heap hh
      omega
  refine ⟨⟨?_, Gs.tq (Ce.own HOWN) ht (fun b off n c hv => (hap b off n c hv).1), Nat.zero_le _, fun b off n c hv => (hap b off n c hv).1⟩, World.ownsRow_nil _ _ _ _, HFB.tq ht (by omega), below_tq HB1 ht (by omega) (Nat.le_refl _), ht.size, Nat.le_refl _, by omega, by omega, by omega, by omega, fun b off n c hv => (hap b off n c hv).2⟩
  rw [heap_setCell_same _ _ 6 _ _ _ (heap_setCell_same _ _ 5 _ _ _ (heap_setCell_same _ _ 4 _ _ _ (heap_setCell_same _ _ 3 _ _ _ (heap_setCell_same _ _ 1 _ _ _ HQB))))]
  simp
set_option maxRecDepth 20000 in
set_option maxHeartbeats 4000000 in
theorem scan_short (w : World) (s : ByteArray) (hT : Tabs w) (hs : s.size ≤ 4096) :
    Calls Tryd.prog 11 #[.string s] w fun r w' => Below w.heap.size w w' ∧ ∃ gs e o, Snd s pl0 gs e ∧ ScanR s e gs o ∧ ScanO w w' r o := by
  have hs' : decide ((4096 : Int) < (s.size : Int)) = false := by simp; omega
  go_enter Tryd.func11, Tryd.ntmps11
  go_wp2_with fail
  refine (sound_any _ _ (hT.below (by (repeat' (first | (with_reducible exact Below.refl _ _) | (with_reducible assumption) | (with_reducible refine gdrewN ?_ _) | (with_reducible refine Below.alloc ?_ ?_ _) | (with_reducible refine Below.drew ?_) | (with_reducible refine Below.setCell ?_ ?_ _) | go_size)))) hs).mono ?_
  rintro r w1 ⟨gs, e, v, hQ, rfl, hown, hb1⟩
  obtain ⟨ao, cap, rfl⟩ := own_slice hown
  have hsz0 : ((w.alloc (.cells #[.int .i64 0, .int .i64 0, .int .i64 0, .int .i64 0] 25)).alloc (.cells #[.string s, .slice none 0 0, .int .i64 0, .int .i64 0, .int .i64 0, .int .i64 0, .int .i64 0] 63)).heap.size = w.heap.size + 2 := by simp [World.size_alloc]
  have hbq := hb1
  rw [hsz0] at hown hbq
  have hqb : w1.heap[w.heap.size + 1]? = some (.cells #[.string s, .slice none 0 0, .int .i64 0, .int .i64 0, .int .i64 0, .int .i64 0, .int .i64 0] 63 (0, 0)) := by
    rw [hbq.block (w.heap.size + 1) (by omega)]
    have := heap_alloc_new (w.alloc (.cells #[.int .i64 0, .int .i64 0, .int .i64 0, .int .i64 0] 25)) (.cells #[.string s, .slice none 0 0, .int .i64 0, .int .i64 0, .int .i64 0, .int .i64 0, .int .i64 0] 63)
    rwa [World.size_alloc] at this
  have hfb : PlB w1 w.heap.size plz := by
    unfold PlB
    rw [hbq.block w.heap.size (by omega)]
    exact (((Below.refl _ _).alloc (Nat.le_refl _) (.cells #[.string s, .slice none 0 0, .int .i64 0, .int .i64 0, .int .i64 0, .int .i64 0, .int .i64 0] 63)).block w.heap.size (by simp [World.size_alloc])).trans (heap_alloc_new w (.cells #[.int .i64 0, .int .i64 0, .int .i64 0, .int .i64 0] 25))
  have hb1w : Below w.heap.size w w1 := (below_two w _ _).trans (hbq.mono (by omega))
  have hs1 : w.heap.size + 2 ≤ w1.heap.size := by have := hbq.size; rwa [hsz0] at this
  have HOWN := hide hown
  have HQB := hide hqb
  have HFB := hide hfb
  have HB1 := hide hb1w
  have HQ := hide hQ
  have k1 : w1.cell? ⟨w.heap.size + 1, 1, none⟩ = some (.slice none 0 0) := by rw [cell_of_row w1 _ 1 _ _ _ hqb]; rfl
  have k3 : w1.cell? ⟨w.heap.size + 1, 3, none⟩ = some (.int .i64 0) := by rw [cell_of_row w1 _ 3 _ _ _ hqb]; rfl
  have k4 : w1.cell? ⟨w.heap.size + 1, 4, none⟩ = some (.int .i64 0) := by rw [cell_of_row w1 _ 4 _ _ _ hqb]; rfl
  have k5 : w1.cell? ⟨w.heap.size + 1, 5, none⟩ = some (.int .i64 0) := by rw [cell_of_row w1 _ 5 _ _ _ hqb]; rfl
  have k6 : w1.cell? ⟨w.heap.size + 1, 6, none⟩ = some (.int .i64 0) := by rw [cell_of_row w1 _ 6 _ _ _ hqb]; rfl
  have f1 := frozen_of_row w1 (w.heap.size + 1) 1 _ _ hqb
  have f3 := frozen_of_row w1 (w.heap.size + 1) 3 _ _ hqb
  have f4 := frozen_of_row w1 (w.heap.size + 1) 4 _ _ hqb
  have f5 := frozen_of_row w1 (w.heap.size + 1) 5 _ _ hqb
  have f6 := frozen_of_row w1 (w.heap.size + 1) 6 _ _ hqb
  clear hown hbq hqb hfb hb1 hb1w hsz0 hQ hT
  unfold Pl.v
  go_wp2_with fail
  have hS0 := scs_first (e := e) HOWN.out HQB.out HFB.out HB1.out hs1
  clear k1 k3 k4 k5 k6 f1 f3 f4 f5 f6 HOWN HQB HFB HB1
  generalize (((((w1.setCell ⟨w.heap.size + 1, 1, none⟩ (.slice ao gs.length cap)).setCell ⟨w.heap.size + 1, 3, none⟩ (.int .i64 e.b)).setCell ⟨w.heap.size + 1, 4, none⟩ (.int .i64 e.g)).setCell ⟨w.heap.size + 1, 5, none⟩ (.int .i64 e.l)).setCell ⟨w.heap.size + 1, 6, none⟩ (.int .i64 e.c)) = w2 at hS0 ⊢
  generalize w1.heap.size = B at hS0 hs1
  have hends := HQ.out.ends pl0_ok (Nat.zero_le _)
  have hgl : gs.length ≤ 4096 := by simp only [pl0] at hends; omega
  have heb : e.b ≤ s.size := hends.2.2.1
  clear hends
  refine (skip_any w2 _ s _ gs 0 e hS0.scn (by omega)).mono ?_
  rintro r w3 ⟨rfl, ht3, j0, _, hdj0, hS3⟩
  have HS := hide (hS0.tq ht3 hS3)
  rw [List.drop_zero] at hdj0
  have HD0 := hide hdj0
  clear hS0 ht3 hS3 hdj0
  generalize hq : w.heap.size + 1 = q at *
  generalize hf : w.heap.size = f at *
  replace hf : w.heap.size ≤ f := by omega
  go_wp2
  have hqf : q ≠ f := by omega
  have hfq : f ≠ q := by omega
  clear hq
  obtain ⟨i0, hi0, hz0, hz1, hz2⟩ := info_is infoT
  go_loopw [6] (fun tv wr => ∃ (ts : List Tk) (i : Nat) (ta : Option Addr) (tc : Nat) (rest : List Gl), tv = .slice ta ts.length tc ∧ ScS w wr q f B s (.slice ao gs.length cap) gs i e ts (.slice ta ts.length tc) ∧ ts.length ≤ i ∧ gs.drop i = skp false rest ∧ ∀ o, ScanR s e rest o → ScanR s e gs (o.pres ts)) (fun _ wr => gs.length - nxtS wr q)
  case atStart => exact ⟨[], j0, none, 0, gs, rfl, HS.out, Nat.zero_le _, HD0.out, fun o h => by rw [pres_nil]; exact h⟩
  case round =>
    clear HS HD0
    obtain ⟨ts, i, ta, tc, rest, rfl, hS, hti, hdi, hpre⟩ := hrel
    have HS := hide hS
    have HE := hide hpre
    have HDI := hide hdi
    have IP := hide hS.scn.nxt
    have hil := hS.scn.le
    obtain ⟨hq, k0, k1, k2, k3, k4, k5, k6⟩ := hS.scn.cells
    clear hS hpre hdi
    by_cases hj : i < gs.length
    · have hj' : (i : Int) < (gs.length : Int) := by omega
      have hgi : gs[i]? = some (gs[i]'hj) := List.getElem?_eq_getElem hj
      have hdr := List.drop_eq_getElem_cons hj
      generalize gs[i]'hj = g at hgi hdr
      have HG := hide hgi
      have HDR := hide hdr
      clear hgi hdr
      go_wp2_with fail
      go_quiet (fail)
      have HS1 := hide (HS.out.below (gdrewN (Below.refl _ _) nq))
      clear HS k0 k1 k2 k3 k4 k5 k6 hq
      generalize wr.drewN nq = w1 at HS1 ⊢
      go_wp2_with fail
      refine (place_any w1 q s _ gs i e HS1.out.scn).mono ?_
      rintro r w2 ⟨rfl, hb2⟩
      have HS2 := hide (HS1.out.below hb2)
      rw [HDR.out]
      simp only [plf]
      clear hb2 HS1
      unfold Pl.v
      go_wp2_with fail
      have HS3 := hide (HS2.out.below ((Below.refl _ _).alloc (Nat.le_refl _) (.cells #[.int .i64 g.pl.b, .int .i64 g.pl.g, .int .i64 g.pl.l, .int .i64 g.pl.c] 25)))
      have hp3 : PlB (w2.alloc (.cells #[.int .i64 g.pl.b, .int .i64 g.pl.g, .int .i64 g.pl.l, .int .i64 g.pl.c] 25)) w2.heap.size g.pl := heap_alloc_new w2 _
      have ha3 : w2.heap.size ≠ q ∧ w2.heap.size ≠ f := by have := HS2.out.siz; have := HS2.out.qB; have := HS2.out.fB; omega
      clear HS2
      generalize w2.alloc (.cells #[.int .i64 g.pl.b, .int .i64 g.pl.g, .int .i64 g.pl.l, .int .i64 g.pl.c] 25) = w3 at HS3 hp3 ⊢
      generalize w2.heap.size = a7 at ha3 hp3 ⊢
      have HP3 := hide hp3
      clear hp3
      refine (token_any w3 q s _ gs i e HS3.out.scn (by omega) HQ.out hs g HG.out).mono ?_
      rintro r w4 ⟨o, ho, hO⟩
      obtain ⟨kd, tx, kk, rfl, hV⟩ := hO.v
      have HV := hide hV
      have HO := hide ho
      have HP4 := hide (HP3.out.tq hV.tq ha3.1)
      have HZ4 := hide (HS3.out.zer.tq hV.tq hfq)
      have HB4 := hide (below_tq HS3.out.bel hV.tq HS3.out.qw (Nat.le_refl _))
      clear hO hV ho HP3
      obtain ⟨hf7, p0, p1, p2, p3⟩ := HP4.out.cells
      by_cases hk : kk = 0
      · subst hk
        cases o with
        | bad k =>
          exfalso
          obtain ⟨h1, h2, _⟩ := HV.out.out
          simp only [tok0, Ending.returned.injEq, Value.tuple.injEq, Array.mk.injEq, List.cons.injEq, Value.int.injEq, true_and, and_true] at h2
          exact h1 h2.2.symm
        | ok kind text rest' =>
          obtain ⟨h2, hT4, j, hij, hdj, hS4⟩ := HV.out.out
          simp only [Ending.returned.injEq, Value.tuple.injEq, Array.mk.injEq, List.cons.injEq, Value.int.injEq, Value.agg.injEq, Value.string.injEq, true_and, and_true] at h2
          obtain ⟨rfl, rfl⟩ := h2
          have HS4 := hide (HS3.out.tq hT4 hS4)
          have HDJ := hide hdj
          clear hT4 hS4 hdj HS3 HV HZ4 HB4
          have hone : ∀ u ∈ ([.int .i64 kd, .string tx, .int .i64 g.pl.b, .int .i64 g.pl.g, .int .i64 g.pl.l, .int .i64 g.pl.c] : List Value), u.oneCell' = true := by
            intro u hu
            simp only [List.mem_cons, List.not_mem_nil, or_false] at hu
            rcases hu with rfl | rfl | rfl | rfl | rfl | rfl <;> rfl
          have hown := own_below (own_below HS4.out.own ((Below.refl _ _).alloc (Nat.le_refl _) (.cells #[.int .i64 kd, .string tx, .int .i64 g.pl.b, .int .i64 g.pl.g, .int .i64 g.pl.l, .int .i64 g.pl.c] 35))) ((Below.refl _ _).alloc (Nat.le_refl _) (.cells #[.int .i64 kd, .string tx, .int .i64 g.pl.b, .int .i64 g.pl.g, .int .i64 g.pl.l, .int .i64 g.pl.c] 35))
          have hsz := HS4.out.siz
          go_wp2_with (at_builtin; refine wpList_append_lies _ rfl (.tmp 55) (.tmp 57) 23 rfl B 35 i0 _ 6 56 Tryd.underlying23 hi0 hz0 hz1 hz2 rfl (by decide) (.slice ta ts.length tc) ts.length (tflat ts) (by simp [Act.eval]) hown ⟨w4.heap.size + 1, 0, none⟩ 1 1 [.int .i64 kd, .string tx, .int .i64 g.pl.b, .int .i64 g.pl.g, .int .i64 g.pl.l, .int .i64 g.pl.c] (by simp [Act.eval]) rfl (by have := World.news_of_block (heap_alloc_new (w4.alloc (.cells #[.int .i64 kd, .string tx, .int .i64 g.pl.b, .int .i64 g.pl.g, .int .i64 g.pl.l, .int .i64 g.pl.c] 35)) (.cells #[.int .i64 kd, .string tx, .int .i64 g.pl.b, .int .i64 g.pl.g, .int .i64 g.pl.l, .int .i64 g.pl.c] 35)); rwa [World.size_alloc] at this) hone (by omega) (by unfold maxLen; omega) (by omega) (by simp [World.size_alloc]; omega) _ rfl ?_; intro g1 cap1 w5 hown5 hgrow5 hat5 hlt5)
          have HS5 := hide ((HS4.out.below (below_two _ _ _)).more (t := ⟨kd, tx, g.pl⟩) hgrow5 (by simpa [tflat_append, tflat] using hown5))
          clear hown5 hgrow5 hat5 hlt5 hown hone hsz HS4
          refine (skip_any w5 q s _ gs j e HS5.out.scn (by omega)).mono ?_
          rintro r w6 ⟨rfl, ht6, j6, hj6, hdj6, hS6⟩
          have HS6 := hide (HS5.out.tq ht6 hS6)
          have HD6 := hide hdj6
          clear ht6 hS6 hdj6 HS5
          go_wp2
          go_roundw
          case rel =>
            refine ⟨ts ++ [⟨kd, tx, g.pl⟩], j6, some ⟨g1, 0, none⟩, cap1, rest', by simp, ?_, by simp; omega, by rw [HD6.out, HDJ.out], ?_⟩
            · have := HS6.out
              simpa using this
            · intro o ho
              have h1 := HE.out _ (ScanR.tok rest g (gs.drop (i + 1)) kd tx rest' o (by rw [← HDI.out, HDR.out]) HO.out ho)
              rwa [pres_pre] at h1
          case measure => rw [IP.out, HS6.out.scn.nxt]; have := HS6.out.scn.le; omega
      · have hk' : (kk != 0) = true := by simp [hk]
        cases o with
        | ok kind text rest' =>
          exfalso
          obtain ⟨h2, _⟩ := HV.out.out
          simp only [Ending.returned.injEq, Value.tuple.injEq, Array.mk.injEq, List.cons.injEq, Value.int.injEq, Value.agg.injEq, Value.string.injEq, true_and, and_true] at h2
          exact hk h2.2
        | bad k =>
          obtain ⟨h1, h2, _⟩ := HV.out.out
          simp only [tok0, Ending.returned.injEq, Value.tuple.injEq, Array.mk.injEq, List.cons.injEq, Value.int.injEq, Value.agg.injEq, Value.string.injEq, true_and, and_true] at h2
          have hkk : kk = k := h2.2
          have HKK := hide hkk
          clear h2 hkk HV
          obtain ⟨hff, y0, y1, y2, y3⟩ := HZ4.out.cells
          have f0 := frozen_of_row w4 f 0 _ _ HZ4.out
          have f1 := frozen_of_row w4 f 1 _ _ HZ4.out
          have f2 := frozen_of_row w4 f 2 _ _ HZ4.out
          have f3 := frozen_of_row w4 f 3 _ _ HZ4.out
          go_wp2_with fail
          go_region
          go_wp2
          have hX : PlB ((((((w4.setCell ⟨f, 0, none⟩ (.int .i64 g.pl.b)).setCell ⟨f, 1, none⟩ (.int .i64 g.pl.g)).setCell ⟨f, 2, none⟩ (.int .i64 g.pl.l)).setCell ⟨f, 3, none⟩ (.int .i64 g.pl.c)).alloc (.cells #[.int .i64 kd, .string tx, .int .i64 0, .int .i64 0, .int .i64 0, .int .i64 0] 35)).drew) f g.pl := (plB_fill HZ4.out).below (((Below.refl _ _).alloc (Nat.le_refl _) _).drew)
          have hXB : Below w.heap.size w ((((((w4.setCell ⟨f, 0, none⟩ (.int .i64 g.pl.b)).setCell ⟨f, 1, none⟩ (.int .i64 g.pl.g)).setCell ⟨f, 2, none⟩ (.int .i64 g.pl.l)).setCell ⟨f, 3, none⟩ (.int .i64 g.pl.c)).alloc (.cells #[.int .i64 kd, .string tx, .int .i64 0, .int .i64 0, .int .i64 0, .int .i64 0] 35)).drew) := ((fill_below HB4.out hf _ _ _ _).alloc (by have := HB4.out.size; simpa [World.setCell] using this) _).drew
          generalize ((((((w4.setCell ⟨f, 0, none⟩ (.int .i64 g.pl.b)).setCell ⟨f, 1, none⟩ (.int .i64 g.pl.g)).setCell ⟨f, 2, none⟩ (.int .i64 g.pl.l)).setCell ⟨f, 3, none⟩ (.int .i64 g.pl.c)).alloc (.cells #[.int .i64 kd, .string tx, .int .i64 0, .int .i64 0, .int .i64 0, .int .i64 0] 35)).drew) = wf at hX hXB ⊢
          obtain ⟨_, x0, x1, x2, x3⟩ := hX.cells
          refine bodyPost_ret (v := _) (by simp [results, Tryd.results11, go_sem, x0, x1, x2, x3]; try rfl) rfl ⟨hXB, gs, e, .bad k g.pl, HQ.out, HE.out _ (ScanR.bad rest g (gs.drop (i + 1)) k (by rw [← HDI.out, HDR.out]) HO.out), ?_⟩
          show _ = _
          rw [HKK.out]
          rfl
    · have hdr : gs.drop i = [] := List.drop_eq_nil_of_le (by omega)
      rw [hdr] at HDI
      have hj' : decide ((i : Int) < (gs.length : Int)) = false := by simp; omega
      clear hdr
      by_cases hbe : e.b < s.size
      · have hbe' : (e.b : Int) < (s.size : Int) := by omega
        obtain ⟨hff, y0, y1, y2, y3⟩ := HS.out.zer.cells
        have f0 := frozen_of_row wr f 0 _ _ HS.out.zer
        have f1 := frozen_of_row wr f 1 _ _ HS.out.zer
        have f2 := frozen_of_row wr f 2 _ _ HS.out.zer
        have f3 := frozen_of_row wr f 3 _ _ HS.out.zer
        go_wp2_with fail
        go_quiet (fail)
        go_wp2_with fail
        go_region
        go_wp2
        refine bodyPost_ret (v := _) (by simp [results, Tryd.results11, go_sem, y0, y1, y2, y3]; try rfl) rfl ⟨?_, gs, e, .bad 40 e, HQ.out, HE.out _ (ScanR.rune rest HDI.out.symm hbe), rfl⟩
        have hB := HS.out.bel
        (repeat' (first | (with_reducible exact Below.refl _ _) | (with_reducible assumption) | (with_reducible refine gdrewN ?_ _) | (with_reducible refine Below.alloc ?_ ?_ _) | (with_reducible refine Below.drew ?_) | (with_reducible refine Below.setCell ?_ ?_ _) | go_size))
      · have hbe' : decide ((e.b : Int) < (s.size : Int)) = false := by simp; omega
        have hone : ∀ u ∈ ([.int .i64 0, .string ⟨#[]⟩, .int .i64 e.b, .int .i64 e.g, .int .i64 e.l, .int .i64 e.c] : List Value), u.oneCell' = true := by
          intro u hu
          simp only [List.mem_cons, List.not_mem_nil, or_false] at hu
          rcases hu with rfl | rfl | rfl | rfl | rfl | rfl <;> rfl
        go_wp2_with fail
        go_quiet (fail)
        have HS1 := hide (HS.out.below (gdrewN (Below.refl _ _) nq))
        clear HS k0 k1 k2 k3 k4 k5 k6 hq
        generalize wr.drewN nq = w1 at HS1 ⊢
        obtain ⟨hq, k0, k1, k2, k3, k4, k5, k6⟩ := HS1.out.scn.cells
        have hown := own_below HS1.out.own ((Below.refl _ _).alloc (Nat.le_refl _) (.cells #[.int .i64 0, .string ⟨#[]⟩, .int .i64 e.b, .int .i64 e.g, .int .i64 e.l, .int .i64 e.c] 35))
        have hsz := HS1.out.siz
        go_wp2_with (at_builtin; refine wpList_append_lies _ rfl (.tmp 71) (.tmp 77) 23 rfl B 35 i0 _ 6 56 Tryd.underlying23 hi0 hz0 hz1 hz2 rfl (by decide) (.slice ta ts.length tc) ts.length (tflat ts) (by simp [Act.eval]) hown ⟨w1.heap.size, 0, none⟩ 1 1 [.int .i64 0, .string ⟨#[]⟩, .int .i64 e.b, .int .i64 e.g, .int .i64 e.l, .int .i64 e.c] (by simp [Act.eval]) rfl (World.news_of_block (heap_alloc_new w1 (.cells #[.int .i64 0, .string ⟨#[]⟩, .int .i64 e.b, .int .i64 e.g, .int .i64 e.l, .int .i64 e.c] 35))) hone (by omega) (by unfold maxLen; omega) (by omega) (by simp [World.size_alloc]; omega) _ rfl ?_; intro g1 cap1 w5 hown5 hgrow5 hat5 hlt5; have HS5 := hide ((HS1.out.below ((Below.refl _ _).alloc (Nat.le_refl _) _)).more (t := ⟨0, ⟨#[]⟩, e⟩) hgrow5 (by simpa [tflat_append, tflat] using hown5)); obtain ⟨hff, y0, y1, y2, y3⟩ := HS5.out.zer.cells; have f0 := frozen_of_row w5 f 0 _ _ HS5.out.zer; have f1 := frozen_of_row w5 f 1 _ _ HS5.out.zer; have f2 := frozen_of_row w5 f 2 _ _ HS5.out.zer; have f3 := frozen_of_row w5 f 3 _ _ HS5.out.zer; clear hown5 hgrow5 hat5 hlt5)
        refine bodyPost_ret (v := .tuple #[.slice (some ⟨g1, 0, none⟩) (ts.length + 1) cap1, .int .i64 0, plz.v]) (by simp [results, Tryd.results11, go_sem, y0, y1, y2, y3, plz, Pl.v]) rfl ⟨?_, gs, e, .ok (ts ++ [(⟨0, ⟨#[]⟩, e⟩ : Tk)]), HQ.out, HE.out _ (ScanR.done rest HDI.out.symm (by omega)), _, rfl, ?_⟩
        · have hB := HS5.out.bel
          (repeat' (first | (with_reducible exact Below.refl _ _) | (with_reducible assumption) | (with_reducible refine gdrewN ?_ _) | (with_reducible refine Below.alloc ?_ ?_ _) | (with_reducible refine Below.drew ?_) | (with_reducible refine Below.setCell ?_ ?_ _) | go_size))
        · have e5 : (ts ++ [(⟨0, ⟨#[]⟩, e⟩ : Tk)]).length = ts.length + 1 := by simp
          have h5 := HS5.out.own
          rw [e5] at h5 ⊢
          refine own_mono (own_keep h5 ?_) (show w.heap.size ≤ B by omega)
          intro k o hk he
          have hkf : k ≠ f := by omega
          rw [heap_setCell_other _ ⟨f, 3, none⟩ k _ hkf, heap_setCell_other _ ⟨f, 2, none⟩ k _ hkf, heap_setCell_other _ ⟨f, 1, none⟩ k _ hkf, heap_setCell_other _ ⟨f, 0, none⟩ k _ hkf]
          exact he
theorem scan_any (w : World) (s : ByteArray) (hT : Tabs w) :
    Calls Tryd.prog 11 #[.string s] w fun r w' => Below w.heap.size w w' ∧ ((4096 < s.size ∧ r = .returned (.tuple #[.slice none 0 0, .int .i64 2, plz.v])) ∨ (s.size ≤ 4096 ∧ ∃ gs e o, Snd s pl0 gs e ∧ ScanR s e gs o ∧ ScanO w w' r o)) := by
  by_cases hs : 4096 < s.size
  · exact (scan_long w s hs).mono fun r w' h => ⟨h.1, .inl ⟨hs, h.2⟩⟩
  · exact (scan_short w s hT (by omega)).mono fun r w' h => ⟨h.1, .inr ⟨by omega, h.2⟩⟩
end Lm
end Go.Proofs.YtgfglefgpgckiaaDoor

namespace Go.Proofs.YtgfglefgpgckiaaDoor
namespace Lm
open Go Go.RowKit
theorem decN_back {n b0 b1 b2 b3 : Nat} (_h0 : b0 < 256) (_h1 : b1 < 256) (_h2 : b2 < 256) (_h3 : b3 < 256) {c k : Nat} (h : Lib.decodeN n b0 b1 b2 b3 = (c, k)) (hv : (c, k) ≠ (65533, 1)) :
    (k = 1 ∧ c = b0 ∧ c < 128) ∨ (k = 2 ∧ 128 ≤ c ∧ c < 2048 ∧ b0 = 192 + c / 64 ∧ b1 = 128 + c % 64) ∨
    (k = 3 ∧ 2048 ≤ c ∧ c < 65536 ∧ b0 = 224 + c / 4096 ∧ b1 = 128 + c / 64 % 64 ∧ b2 = 128 + c % 64) ∨
    (k = 4 ∧ 65536 ≤ c ∧ c ≤ 1114111 ∧ b0 = 240 + c / 262144 ∧ b1 = 128 + c / 4096 % 64 ∧ b2 = 128 + c / 64 % 64 ∧ b3 = 128 + c % 64) := by
  unfold Lib.decodeN at h
  repeat' split at h
  all_goals try exact absurd h.symm hv
  all_goals (simp only [Prod.mk.injEq] at h; obtain ⟨rfl, rfl⟩ := h)
  · exact .inl (by omega)
  · exact .inr (.inl (by omega))
  · exact .inr (.inr (.inl (by omega)))
  · exact .inr (.inr (.inr (by omega)))
theorem ext_one (s : ByteArray) (i : Nat) (h : i < s.size) (k : Nat) (hk : i + (k + 1) ≤ s.size) : (s.extract i (i + (k + 1))).data.toList = s.get! i :: (s.extract (i + 1) (i + 1 + k)).data.toList := by
  have hl : i < s.data.toList.length := h
  rw [ByteArray.data_extract, ByteArray.data_extract, Array.toList_extract, Array.toList_extract, List.extract_eq_take_drop, List.extract_eq_take_drop, List.drop_eq_getElem_cons hl, show i + (k + 1) - i = k + 1 from by omega, show i + 1 + k - (i + 1) = k from by omega, List.take_succ_cons]
  congr 1
  cases s with
  | mk d => exact (getElem!_pos d i h).symm
theorem ext_nil (s : ByteArray) (i : Nat) : (s.extract i (i + 0)).data.toList = [] := by
  rw [ByteArray.data_extract]; simp
theorem ba_ext {s : ByteArray} {l : List UInt8} (h : s.data.toList = l) : s = ⟨l.toArray⟩ := by
  cases s with
  | mk d => subst h; simp
end Lm
end Go.Proofs.YtgfglefgpgckiaaDoor

namespace Go.Proofs.YtgfglefgpgckiaaDoor
namespace Lm
open Go Go.RowKit
theorem snd_step {s : ByteArray} {p e : Pl} {gs : List Gl} {c k : Nat} (h : p.b < s.size) (hd : Utf8.decode s p.b = (c, k)) (hc : (c, k) ≠ (65533, 1)) (hr : Snd s (p.past c k) gs e) : Snd s p (⟨c, p⟩ :: gs) e := by
  have := Snd.go p gs e h (by rw [hd]; exact hc) (by rw [hd]; exact hr)
  rwa [hd] at this
theorem tok_name {s : ByteArray} {e : Pl} {g : Gl} {r t : List Gl} {x : ByteArray} (h : gcls g.code = 2) (ht : (g :: r).dropWhile (inC [2, 3, 4]) = t) (hl : ¬ 16 < (g :: r).length - t.length) (hx : s.extract g.pl.b (plf t e).b = x) : TokR s e g r (.ok 1 x t) := by
  have := tokR_name (s := s) (e := e) (r := r) h
  rwa [ht, if_neg hl, hx] at this
def aws : ByteArray := ⟨#[206, 177, 32, 226, 137, 148, 32, 50, 120]⟩
theorem aws_snd : Snd aws pl0 [⟨945, ⟨0, 0, 1, 1⟩⟩, ⟨32, ⟨2, 1, 1, 2⟩⟩, ⟨8788, ⟨3, 2, 1, 3⟩⟩, ⟨32, ⟨6, 3, 1, 4⟩⟩, ⟨50, ⟨7, 4, 1, 5⟩⟩, ⟨120, ⟨8, 5, 1, 6⟩⟩] ⟨9, 6, 1, 7⟩ := by
  refine snd_step (k := 2) (by decide) (by kernel_rfl) (by decide) ?_
  refine snd_step (p := ⟨2, 1, 1, 2⟩) (k := 1) (by decide) (by kernel_rfl) (by decide) ?_
  refine snd_step (p := ⟨3, 2, 1, 3⟩) (k := 3) (by decide) (by kernel_rfl) (by decide) ?_
  refine snd_step (p := ⟨6, 3, 1, 4⟩) (k := 1) (by decide) (by kernel_rfl) (by decide) ?_
  refine snd_step (p := ⟨7, 4, 1, 5⟩) (k := 1) (by decide) (by kernel_rfl) (by decide) ?_
  refine snd_step (p := ⟨8, 5, 1, 6⟩) (k := 1) (by decide) (by kernel_rfl) (by decide) ?_
  exact .stop ⟨9, 6, 1, 7⟩ (.inl (by decide))
theorem aws_scan : ScanR aws ⟨9, 6, 1, 7⟩ [⟨945, ⟨0, 0, 1, 1⟩⟩, ⟨32, ⟨2, 1, 1, 2⟩⟩, ⟨8788, ⟨3, 2, 1, 3⟩⟩, ⟨32, ⟨6, 3, 1, 4⟩⟩, ⟨50, ⟨7, 4, 1, 5⟩⟩, ⟨120, ⟨8, 5, 1, 6⟩⟩] (.ok [⟨1, ⟨#[206, 177]⟩, ⟨0, 0, 1, 1⟩⟩, ⟨3, ⟨#[58, 61]⟩, ⟨3, 2, 1, 3⟩⟩, ⟨2, ⟨#[50]⟩, ⟨7, 4, 1, 5⟩⟩, ⟨1, ⟨#[120]⟩, ⟨8, 5, 1, 6⟩⟩, ⟨0, ⟨#[]⟩, ⟨9, 6, 1, 7⟩⟩]) := by
  refine ScanR.tok _ ⟨945, ⟨0, 0, 1, 1⟩⟩ [⟨32, ⟨2, 1, 1, 2⟩⟩, ⟨8788, ⟨3, 2, 1, 3⟩⟩, ⟨32, ⟨6, 3, 1, 4⟩⟩, ⟨50, ⟨7, 4, 1, 5⟩⟩, ⟨120, ⟨8, 5, 1, 6⟩⟩] 1 ⟨#[206, 177]⟩ [⟨32, ⟨2, 1, 1, 2⟩⟩, ⟨8788, ⟨3, 2, 1, 3⟩⟩, ⟨32, ⟨6, 3, 1, 4⟩⟩, ⟨50, ⟨7, 4, 1, 5⟩⟩, ⟨120, ⟨8, 5, 1, 6⟩⟩] (.ok [⟨3, ⟨#[58, 61]⟩, ⟨3, 2, 1, 3⟩⟩, ⟨2, ⟨#[50]⟩, ⟨7, 4, 1, 5⟩⟩, ⟨1, ⟨#[120]⟩, ⟨8, 5, 1, 6⟩⟩, ⟨0, ⟨#[]⟩, ⟨9, 6, 1, 7⟩⟩]) (by kernel_rfl) (tok_name (by kernel_rfl) (by kernel_rfl) (by decide) (by kernel_rfl)) ?_
  refine ScanR.tok _ ⟨8788, ⟨3, 2, 1, 3⟩⟩ [⟨32, ⟨6, 3, 1, 4⟩⟩, ⟨50, ⟨7, 4, 1, 5⟩⟩, ⟨120, ⟨8, 5, 1, 6⟩⟩] 3 ⟨#[58, 61]⟩ [⟨32, ⟨6, 3, 1, 4⟩⟩, ⟨50, ⟨7, 4, 1, 5⟩⟩, ⟨120, ⟨8, 5, 1, 6⟩⟩] (.ok [⟨2, ⟨#[50]⟩, ⟨7, 4, 1, 5⟩⟩, ⟨1, ⟨#[120]⟩, ⟨8, 5, 1, 6⟩⟩, ⟨0, ⟨#[]⟩, ⟨9, 6, 1, 7⟩⟩]) (by kernel_rfl) (tokR_sign (by kernel_rfl)) ?_
  have hnum : TokR aws ⟨9, 6, 1, 7⟩ ⟨50, ⟨7, 4, 1, 5⟩⟩ [⟨120, ⟨8, 5, 1, 6⟩⟩] (.ok 2 ⟨#[50]⟩ [⟨120, ⟨8, 5, 1, 6⟩⟩]) := by
    have hv : dval (bytesOf (aws.extract 7 8)) = 2 := by kernel_rfl
    have h1 : IsLen (dval (bytesOf (aws.extract 7 8))) 1 := ⟨[2], ⟨by intro z hz; simp at hz; omega, by kernel_rfl⟩, by rw [hv]; kernel_rfl, rfl⟩
    have h2 : IsDec [50] (dval (bytesOf (aws.extract 7 8))) := ⟨by intro z hz; simp at hz; omega, by rw [hv]; kernel_rfl, .inr ⟨50, [], rfl, by decide⟩⟩
    exact tokR_num (s := aws) (e := ⟨9, 6, 1, 7⟩) (g := ⟨50, ⟨7, 4, 1, 5⟩⟩) (r := [⟨120, ⟨8, 5, 1, 6⟩⟩]) (n := 1) (ds := [50]) (by kernel_rfl) h1 h2
  refine ScanR.tok _ ⟨50, ⟨7, 4, 1, 5⟩⟩ [⟨120, ⟨8, 5, 1, 6⟩⟩] 2 ⟨#[50]⟩ [⟨120, ⟨8, 5, 1, 6⟩⟩] (.ok [⟨1, ⟨#[120]⟩, ⟨8, 5, 1, 6⟩⟩, ⟨0, ⟨#[]⟩, ⟨9, 6, 1, 7⟩⟩]) (by kernel_rfl) hnum ?_
  refine ScanR.tok _ ⟨120, ⟨8, 5, 1, 6⟩⟩ [] 1 ⟨#[120]⟩ [] (.ok [⟨0, ⟨#[]⟩, ⟨9, 6, 1, 7⟩⟩]) (by kernel_rfl) (tok_name (by kernel_rfl) (by kernel_rfl) (by decide) (by kernel_rfl)) ?_
  exact ScanR.done _ (by kernel_rfl) (by decide)
set_option maxRecDepth 20000 in
set_option maxHeartbeats 1000000 in
theorem gawake_any (w : World) (hT : Tabs w) :
    Calls Tryd.prog 9 #[] w fun r w' => r = .returned (.bool true) ∧ Below w.heap.size w w' := by
  have K : Calls Tryd.prog 11 #[.string ⟨#[206, 177, 32, 226, 137, 148, 32, 50, 120]⟩] w fun r w' => Below w.heap.size w w' ∧ ∃ v, r = .returned (.tuple #[v, .int .i64 0, .agg #[.int .i64 0, .int .i64 0, .int .i64 0, .int .i64 0]]) ∧ w'.ownsRow w.heap.size 35 6 v 5 (tflat [⟨1, ⟨#[206, 177]⟩, ⟨0, 0, 1, 1⟩⟩, ⟨3, ⟨#[58, 61]⟩, ⟨3, 2, 1, 3⟩⟩, ⟨2, ⟨#[50]⟩, ⟨7, 4, 1, 5⟩⟩, ⟨1, ⟨#[120]⟩, ⟨8, 5, 1, 6⟩⟩, ⟨0, ⟨#[]⟩, ⟨9, 6, 1, 7⟩⟩]) := by
    refine (scan_any w aws hT).mono ?_
    rintro r w' ⟨hb, ⟨h, _⟩ | ⟨_, gs, e, o, h1, h2, h3⟩⟩
    · exact absurd h (by decide)
    · obtain ⟨rfl, rfl⟩ := h1.one aws_snd
      obtain rfl := h2.one aws_scan
      obtain ⟨v, h4, h5⟩ := h3
      exact ⟨hb, v, h4, h5⟩
  go_enter Tryd.func9, Tryd.ntmps9
  go_wp2_with fail
  refine K.mono ?_
  rintro r w1 ⟨hb, v, rfl, hown⟩
  have HB := hide hb
  obtain ⟨ao, cap, rfl, c1, c2, c3, c4⟩ := Ce.own hown
  rcases c4 with c4 | ⟨b, off, rfl, hl, hc⟩
  · omega
  have t0 : w1.cell? ⟨b, off + 1, none⟩ = some (.string ⟨#[206, 177]⟩) := hc 1 _ rfl
  have t1 : w1.cell? ⟨b, off + 6 + 1, none⟩ = some (.string ⟨#[58, 61]⟩) := hc 7 _ rfl
  have t2 : w1.cell? ⟨b, off + 12 + 1, none⟩ = some (.string ⟨#[50]⟩) := hc 13 _ rfl
  have t3 : w1.cell? ⟨b, off + 18 + 1, none⟩ = some (.string ⟨#[120]⟩) := hc 19 _ rfl
  have t4 : w1.cell? ⟨b, off + 24, none⟩ = some (.int .i64 0) := hc 24 _ rfl
  have hK2 : gcls 945 = 2 := by kernel_rfl
  clear hb hown c1 c2 c3 hc K
  go_wp2_with (go_at_call 23; refine (gcls_any _ _).mono ?_; rintro r w' ⟨rfl, rfl⟩)
  go_ret
  exact ⟨rfl, HB.out.alloc HB.out.size _⟩
end Lm
end Go.Proofs.YtgfglefgpgckiaaDoor

namespace Go.Proofs.YtgfglefgpgckiaaDoor
namespace Lm
open Go Go.RowKit
def Ts (w : World) (v : Value) (l : List Tk) : Prop := Ce w v 6 l.length (tflat l)
theorem Ts.below {w w' : World} {v : Value} {l : List Tk} (h : Ts w v l) (hb : Below w.heap.size w w') : Ts w' v l := Ce.below h hb
theorem tflat_at {l : List Tk} {i : Nat} {t : Tk} (h : l[i]? = some t) : (tflat l)[i * 6]? = some (.int .i64 t.kind) ∧ (tflat l)[i * 6 + 1]? = some (.string t.text) ∧ (tflat l)[i * 6 + 2]? = some (.int .i64 t.pl.b) ∧ (tflat l)[i * 6 + 3]? = some (.int .i64 t.pl.g) ∧ (tflat l)[i * 6 + 4]? = some (.int .i64 t.pl.l) ∧ (tflat l)[i * 6 + 5]? = some (.int .i64 t.pl.c) := by
  induction l generalizing i with
  | nil => simp at h
  | cons u l ih =>
    cases i with
    | zero =>
      simp at h
      subst h
      simp [tflat]
    | succ i =>
      have := ih (i := i) (by simpa using h)
      simp only [tflat, show (i + 1) * 6 = i * 6 + 6 from by omega]
      simpa using this
structure TkC (w : World) (b o : Nat) (t : Tk) : Prop where
  hb : b < w.heap.size
  g0 : w.cell? ⟨b, o, none⟩ = some (.int .i64 t.kind)
  g1 : w.cell? ⟨b, o + 1, none⟩ = some (.string t.text)
  g2 : w.cell? ⟨b, o + 2, none⟩ = some (.int .i64 t.pl.b)
  g3 : w.cell? ⟨b, o + 3, none⟩ = some (.int .i64 t.pl.g)
  g4 : w.cell? ⟨b, o + 4, none⟩ = some (.int .i64 t.pl.l)
  g5 : w.cell? ⟨b, o + 5, none⟩ = some (.int .i64 t.pl.c)
theorem TkC.below {w w' : World} {b o : Nat} {t : Tk} (h : TkC w b o t) (hb : Below w.heap.size w w') : TkC w' b o t :=
  ⟨Nat.lt_of_lt_of_le h.hb hb.size, (hb.cell (p := ⟨b, o, none⟩) h.hb).trans h.g0, (hb.cell (p := ⟨b, o + 1, none⟩) h.hb).trans h.g1, (hb.cell (p := ⟨b, o + 2, none⟩) h.hb).trans h.g2, (hb.cell (p := ⟨b, o + 3, none⟩) h.hb).trans h.g3, (hb.cell (p := ⟨b, o + 4, none⟩) h.hb).trans h.g4, (hb.cell (p := ⟨b, o + 5, none⟩) h.hb).trans h.g5⟩
theorem Ts.tok {w : World} {ao : Option Addr} {n cap : Nat} {l : List Tk} {i : Nat} {t : Tk} (h : Ts w (.slice ao n cap) l) (hg : l[i]? = some t) : ∃ b off, ao = some ⟨b, off, none⟩ ∧ TkC w b (off + i * 6) t := by
  obtain ⟨ao', cap', hv, c1, c2, c3, c4⟩ := h
  obtain ⟨rfl, rfl, rfl⟩ := (Value.slice.injEq .. ▸ hv)
  have hk : i < l.length := (List.getElem?_eq_some_iff.1 hg).1
  rcases c4 with c4 | ⟨b, off, rfl, hl, hc⟩
  · omega
  · obtain ⟨f0, f1, f2, f3, f4, f5⟩ := tflat_at hg
    exact ⟨b, off, rfl, hl, hc _ _ f0, hc _ _ f1, hc _ _ f2, hc _ _ f3, hc _ _ f4, hc _ _ f5⟩
theorem Ts.parts {w : World} {v : Value} {l : List Tk} (h : Ts w v l) : ∃ ao cap, v = .slice ao l.length cap ∧ l.length ≤ 9223372036854775807 := by
  obtain ⟨ao, cap, rfl, c1, c2, c3, c4⟩ := h
  exact ⟨ao, cap, rfl, by omega⟩
theorem Ts.own {w : World} {base : Nat} {v : Value} {l : List Tk} (h : w.ownsRow base 35 6 v l.length (tflat l)) : Ts w v l := Ce.own h
def kx (t : Tk) : Int × ByteArray := (t.kind, t.text)
set_option maxRecDepth 20000 in
set_option maxHeartbeats 1000000 in
theorem alike_eq (w : World) (va vb : Value) (la lb : List Tk) (ha : Ts w va la) (hb : Ts w vb lb) (he : la.map kx = lb.map kx) :
    Calls Tryd.prog 21 #[va, vb] w fun r w' => r = .returned (.bool true) ∧ Below w.heap.size w w' := by
  obtain ⟨aa, ca, rfl, na⟩ := ha.parts
  obtain ⟨ab, cb, rfl, nb⟩ := hb.parts
  have hl : lb.length = la.length := by have := congrArg List.length he; simpa using this.symm
  have HA := hide ha
  have HB := hide hb
  have HE := hide he
  clear ha hb he
  rw [hl] at HB ⊢
  have HL := hide hl
  obtain ⟨n, hn⟩ : ∃ n, la.length = n := ⟨_, rfl⟩
  rw [hn] at HA HB na ⊢
  have HN := hide hn
  clear hn hl nb
  go_enter Tryd.func21, Tryd.ntmps21
  go_wp2
  go_loopw [5] (fun iv wr => ∃ (i : Nat), iv = .int .i64 i ∧ i ≤ n ∧ Below w.heap.size w wr) (fun iv _ => n - (intOf iv).toNat)
  case atStart => exact ⟨0, rfl, Nat.zero_le _, Below.refl _ _⟩
  case round =>
    obtain ⟨i, rfl, hi, hbw⟩ := hrel
    have HW := hide hbw
    by_cases hlt : i < n
    · have h1 : la[i]? = some (la[i]'(by rw [HN.out]; exact hlt)) := List.getElem?_eq_getElem _
      have h2 : lb[i]? = some (lb[i]'(by rw [HL.out, HN.out]; exact hlt)) := List.getElem?_eq_getElem _
      have h3 := congrArg (fun l => l[i]?) HE.out
      simp only [List.getElem?_map, h1, h2, Option.map_some, Option.some.injEq, kx, Prod.mk.injEq] at h3
      obtain ⟨ba, oa, rfl, ga⟩ := HA.out.tok h1
      obtain ⟨bb, ob, rfl, gb⟩ := HB.out.tok h2
      generalize la[i]'(by rw [HN.out]; exact hlt) = ta at h3 ga
      generalize lb[i]'(by rw [HL.out, HN.out]; exact hlt) = tb at h3 gb
      obtain ⟨_, a0, a1, _, _, _, _⟩ := ga.below hbw
      obtain ⟨_, b0, b1, _, _, _, _⟩ := gb.below hbw
      rw [← h3.1] at b0
      rw [← h3.2] at b1
      have hlt' : (i : Int) < (n : Int) := by omega
      clear h1 h2 h3 ga gb hbw
      generalize ta.kind = k at a0 b0
      generalize ta.text = x at a1 b1
      have hkk : (k != k) = false := by simp
      go_wp2_with fail
      go_quiet (fail)
      go_wp2
      go_roundw
      case rel => exact ⟨i + 1, by go_num, by omega, gdrewN HW.out nq⟩
      case measure => simp [intOf]; omega
    · have hlt' : decide ((i : Int) < (n : Int)) = false := by simp; omega
      clear hbw
      go_wp2
      go_ret
      exact ⟨by rfl, HW.out⟩
end Lm
end Go.Proofs.YtgfglefgpgckiaaDoor

namespace Go.Proofs.YtgfglefgpgckiaaDoor
namespace Lm
open Go Go.RowKit
theorem decN_cod {n b0 b1 b2 b3 : Nat} (h0 : b0 < 256) {c k : Nat} (h : Lib.decodeN n b0 b1 b2 b3 = (c, k)) (hv : (c, k) ≠ (65533, 1)) : Cod c := by
  unfold Lib.decodeN at h
  repeat' split at h
  all_goals try exact absurd h.symm hv
  all_goals (simp only [Prod.mk.injEq] at h; obtain ⟨rfl, rfl⟩ := h)
  all_goals (unfold Cod; omega)
theorem u8_of {u : UInt8} {n : Nat} (h : u.toNat = n) : u = n.toUInt8 := by
  subst h
  exact UInt8.toNat_inj.1 (by rw [Nat.toUInt8, UInt8.toNat_ofNat']; have := UInt8.toNat_lt u; omega)
theorem dec_bytes (s : ByteArray) (i : Nat) (h : i < s.size) (hv : Utf8.decode s i ≠ (65533, 1)) : Cod (Utf8.decode s i).1 ∧ (s.extract i (i + (Utf8.decode s i).2)).data.toList = encL (Utf8.decode s i).1 ∧ (Utf8.decode s i).2 = (encL (Utf8.decode s i).1).length := by
  have hl := dec_le s i h
  obtain ⟨c, k, e⟩ : ∃ c k, Utf8.decode s i = (c, k) := ⟨_, _, rfl⟩
  rw [e] at hv hl ⊢
  rw [Lib.decode_at] at e
  simp only at hl ⊢
  refine ⟨decN_cod (UInt8.toNat_lt _) e hv, ?_⟩
  rcases decN_back (UInt8.toNat_lt _) (UInt8.toNat_lt _) (UInt8.toNat_lt _) (UInt8.toNat_lt _) e hv with ⟨rfl, h1, h2⟩ | ⟨rfl, h1, h2, h3, h4⟩ | ⟨rfl, h1, h2, h3, h4, h5⟩ | ⟨rfl, h1, h2, h3, h4, h5, h6⟩
  · unfold encL
    rw [if_pos h2, ext_one s i h 0 (by omega), ext_nil, u8_of h1.symm]
    exact ⟨rfl, rfl⟩
  · unfold encL
    rw [if_neg (by omega), if_pos h2, ext_one s i h 1 (by omega), ext_one s (i + 1) (by omega) 0 (by omega), ext_nil, u8_of h3, u8_of h4]
    exact ⟨rfl, rfl⟩
  · unfold encL
    rw [if_neg (by omega), if_neg (by omega), if_pos h2, ext_one s i h 2 (by omega), ext_one s (i + 1) (by omega) 1 (by omega), ext_one s (i + 1 + 1) (by omega) 0 (by omega), ext_nil, u8_of h3, u8_of h4, u8_of h5]
    exact ⟨rfl, rfl⟩
  · unfold encL
    rw [if_neg (by omega), if_neg (by omega), if_neg (by omega), ext_one s i h 3 (by omega), ext_one s (i + 1) (by omega) 2 (by omega), ext_one s (i + 1 + 1) (by omega) 1 (by omega), ext_one s (i + 1 + 1 + 1) (by omega) 0 (by omega), ext_nil, u8_of h3, u8_of h4, u8_of h5, u8_of h6]
    exact ⟨rfl, rfl⟩
theorem snd_codes {s : ByteArray} {p e : Pl} {gs : List Gl} (h : Snd s p gs e) (he : s.size ≤ e.b) (hb : p.b ≤ s.size) : ∃ cs, gs = glf p cs ∧ e = adv p cs ∧ (∀ c ∈ cs, Cod c) ∧ (s.data.toList.drop p.b) = encs cs := by
  induction h with
  | stop p h =>
    refine ⟨[], rfl, rfl, by simp, ?_⟩
    rw [List.drop_eq_nil_of_le (by show s.data.toList.length ≤ p.b; exact he)]
    rfl
  | go p gs e h1 h2 hr ih =>
    have hd := dec_le s p.b h1
    obtain ⟨k1, k2, k3⟩ := dec_bytes s p.b h1 h2
    obtain ⟨cs, i1, i2, i3, i4⟩ := ih he (by simp only [Pl.past]; omega)
    rw [k3] at i1 i2
    refine ⟨(Utf8.decode s p.b).1 :: cs, by rw [i1]; rfl, by rw [i2]; rfl, ?_, ?_⟩
    · intro c hc
      rcases List.mem_cons.1 hc with rfl | hc
      · exact k1
      · exact i3 c hc
    · rw [encs, ← i4, ← k2, ByteArray.data_extract, Array.toList_extract, List.extract_eq_take_drop, show p.b + (Utf8.decode s p.b).2 - p.b = (Utf8.decode s p.b).2 from by omega]
      simp only [Pl.past]
      rw [← List.drop_drop, List.take_append_drop]
theorem scanR_end {s : ByteArray} {e : Pl} {gs : List Gl} {l : List Tk} (h : ScanR s e gs (.ok l)) : s.size ≤ e.b := by
  generalize ho : SO.ok l = o at h
  induction h generalizing l with
  | done r h hb => exact hb
  | rune r h hb => cases ho
  | bad r g t k h ht => cases ho
  | tok r g t kind text rest o h ht hr ih =>
    cases o with
    | bad k p => cases ho
    | ok l' => exact ih rfl
theorem tokR_bad {s : ByteArray} {e : Pl} {g : Gl} {r : List Gl} {k : Int} (h : TokR s e g r (.bad k)) : k = 42 ∨ k = 2 ∨ k = 41 := by
  unfold TokR at h
  split at h
  · split at h
    · injection h with h; exact .inl h
    · cases h
  · split at h
    · obtain ⟨n, ds, _, _, h⟩ := h
      split at h
      · injection h with h; exact .inr (.inl h)
      · cases h
    · split at h
      · unfold signS at h
        split at h
        · cases h
        · split at h
          · cases h
          · split at h
            · split at h
              · injection h with h; exact .inr (.inr h)
              · split at h
                · cases h
                · injection h with h; exact .inr (.inr h)
            · cases h
      · injection h with h; exact .inr (.inr h)
theorem scanR_bad {s : ByteArray} {e : Pl} {gs : List Gl} {k : Int} {p : Pl} (h : ScanR s e gs (.bad k p)) : k ≠ 0 := by
  generalize ho : SO.bad k p = o at h
  induction h with
  | done r h hb => cases ho
  | rune r h hb => injection ho with e1 _; omega
  | bad r g t k' h ht =>
    injection ho with e1 _
    subst e1
    rcases tokR_bad ht with h | h | h <;> omega
  | tok r g t kind text rest o h ht hr ih =>
    cases o with
    | bad k' p' => exact ih ho
    | ok l' => cases ho
theorem scan_two (w : World) (s : ByteArray) (hT : Tabs w) :
    Calls Tryd.prog 11 #[.string s] w fun r w' => Below w.heap.size w w' ∧ ((∃ k p, k ≠ 0 ∧ r = .returned (.tuple #[.slice none 0 0, .int .i64 k, Pl.v p])) ∨ (s.size ≤ 4096 ∧ ∃ cs l v, (∀ c ∈ cs, Cod c) ∧ s.data.toList = encs cs ∧ ScanR s (adv pl0 cs) (glf pl0 cs) (.ok l) ∧ r = .returned (.tuple #[v, .int .i64 0, plz.v]) ∧ w'.ownsRow w.heap.size 35 6 v l.length (tflat l))) := by
  refine (scan_any w s hT).mono ?_
  rintro r w' ⟨hb, ⟨h, rfl⟩ | ⟨hs, gs, e, o, h1, h2, h3⟩⟩
  · exact ⟨hb, .inl ⟨2, plz, by decide, rfl⟩⟩
  · cases o with
    | bad k p => exact ⟨hb, .inl ⟨k, p, scanR_bad h2, h3⟩⟩
    | ok l =>
      obtain ⟨v, h4, h5⟩ := h3
      obtain ⟨cs, i1, i2, i3, i4⟩ := snd_codes h1 (scanR_end h2) (Nat.zero_le _)
      subst i1 i2
      exact ⟨hb, .inr ⟨hs, cs, l, v, i3, by simpa [pl0] using i4, h2, h4, h5⟩⟩
theorem scan_cs (w : World) (hT : Tabs w) (cs : List Nat) (hc : ∀ c ∈ cs, Cod c) (ts : List (Int × ByteArray)) (hC : ScanC cs ts) (hs : (encs cs).length ≤ 4096) :
    Calls Tryd.prog 11 #[.string (bts (encs cs))] w fun r w' => Below w.heap.size w w' ∧ ∃ l v, l.map kx = ts ∧ r = .returned (.tuple #[v, .int .i64 0, plz.v]) ∧ w'.ownsRow w.heap.size 35 6 v l.length (tflat l) := by
  refine (scan_any w _ hT).mono ?_
  have hd : (bts (encs cs)).data.toList = encs cs := by simp [bts]
  have hz : (bts (encs cs)).size = (encs cs).length := by rw [← hd]; rfl
  have hS := snd_encs (bts (encs cs)) cs hc [] [] pl0 rfl (by rw [hd]; simp) (.inl rfl)
  obtain ⟨l, hR, hl⟩ := scanC_R (bts (encs cs)) cs ts hC [] pl0 rfl (by rw [hd]; rfl)
  rintro r w' ⟨hb, ⟨h, rfl⟩ | ⟨_, gs, e, o, h1, h2, h3⟩⟩
  · omega
  · obtain ⟨rfl, rfl⟩ := h1.one hS
    obtain rfl := h2.one hR
    obtain ⟨v, h4, h5⟩ := h3
    exact ⟨hb, l, v, hl, h4, h5⟩
theorem isDec_short {ds : List Int} {v : Int} {n : Nat} (hd : IsDec ds v) (hn : IsLen v n) (h : n ≤ 32) : ds.length ≤ 400 := by
  obtain ⟨h1, h2, h3⟩ := hd
  obtain ⟨rs, hc, hv, rfl⟩ := hn
  rcases h3 with ⟨_, rfl⟩ | ⟨c, cs, rfl, hc0⟩
  · simp
  · have hcd := (dig_cons.1 h1).1
    have hb := dval_bounds (dig_cons.1 h1).2
    have hlow : p10 cs.length ≤ v := by
      rw [← h2, dval]
      have : p10 cs.length * 1 ≤ (c - 48) * p10 cs.length := by
        rw [Int.mul_comm]
        exact Int.mul_le_mul_of_nonneg_right (by omega) (by have := p10_mono (m := 0) (n := cs.length) (Nat.zero_le _); simp [p10] at this; omega)
      omega
    have hup : v < pw rs.length := by rw [← hv]; exact (val_bounds hc.1).2
    have hpw : pw rs.length ≤ pw 32 := pw_mono h
    have hk : pw 32 ≤ p10 320 := pw_le_p10 32
    by_cases hx : 320 ≤ cs.length
    · have := p10_mono hx
      omega
    · simp; omega
theorem encs_len (u : List Nat) : (encs u).length ≤ 4 * u.length := by
  induction u with
  | nil => simp [encs]
  | cons c u ih =>
    have := encL_pos c
    simp only [encs, List.length_append, List.length_cons]
    omega
theorem TokC.short {cs : List Nat} {k : Int} {x : ByteArray} {r : List Nat} (h : TokC cs k x r) : x.size ≤ 400 := by
  cases h with
  | name c u _ hc hu hr hl =>
    have := encs_len (c :: u)
    show (encs (c :: u)).toArray.size ≤ 400
    simp only [List.size_toArray]
    omega
  | num c u _ n ds hu hr hn hl hd =>
    have := isDec_short hd hn hl
    show ((ds.map fun n => UInt8.ofNat n.toNat).toArray).size ≤ 400
    simpa using this
  | two c x _ hh => show 2 ≤ 400; decide
  | pair c _ hh => show 2 ≤ 400; decide
  | sign c _ h5 hh => show 1 ≤ 400; decide
theorem ScanC.short {cs : List Nat} {ts : List (Int × ByteArray)} (h : ScanC cs ts) : ts.length ≤ cs.length + 1 ∧ ∀ t ∈ ts, t.2.size ≤ 400 := by
  induction h with
  | done r h1 => exact ⟨by simp, by intro t ht; simp at ht; subst ht; show 0 ≤ 400; decide⟩
  | tok r k x rest ts h1 h2 ih =>
    have hlen : ∀ {cs k x r}, TokC cs k x r → r.length < cs.length := by
      intro cs k x r h
      cases h <;> simp <;> omega
    have := hlen h1
    have := skc_len false r
    refine ⟨by simp; omega, ?_⟩
    intro t ht
    rcases List.mem_cons.1 ht with rfl | ht
    · exact h1.short
    · exact ih.2 t ht
end Lm
end Go.Proofs.YtgfglefgpgckiaaDoor

namespace Go.Proofs.YtgfglefgpgckiaaDoor
namespace Lm
open Go Go.RowKit
theorem bts_append (a b : List UInt8) : bts a ++ bts b = bts (a ++ b) := by
  have h : (bts a ++ bts b).data.toList = a ++ b := by simp [bts]
  exact ba_ext h
theorem bts_size (a : List UInt8) : (bts a).size = a.length := by
  show a.toArray.size = _
  simp
def WrP (k : Int) (x y : ByteArray) : Prop := ∃ u, (∀ c ∈ u, Cod c) ∧ y = bts (encs u) ∧ Pc u k x
end Lm
end Go.Proofs.YtgfglefgpgckiaaDoor

namespace Go.Proofs
open Go.Shelf
shelf_lay Lays.n169 Nm 169 at Tryd as Tryd.lays169
namespace YtgfglefgpgckiaaDoor
namespace Lm
open Go Go.RowKit
theorem bext169 : Builder.Extra Tryd.prog Tryd.lays169_ren where
  sizeBuilder := by kernel_rfl
  liesBuilder := by kernel_rfl
  t5 := Tryd.underlying5
  a5 := Tryd.isAgg5
  z5 := Tryd.sizeOf5
  v5 := Tryd.zeroValue5
  infoByte := by kernel_rfl
  cellsByte := by kernel_rfl
  sizeByte := by kernel_rfl
  neB5 := by decide
def Bld (w : World) (B b : Nat) (l : List UInt8) : Prop := Lib.IsBuilderF 72 5 B b (Lib.byteCells l) w
theorem bsize : (Tryd.prog.info? 72).map (·.size) = some 2 := by kernel_rfl
theorem blies : liesAt Tryd.prog Tryd.prog.depth 72 (2 / Tryd.prog.cellsOf 72) 0 72 1 = true := by kernel_rfl
set_option maxRecDepth 20000 in
set_option maxHeartbeats 1000000 in
set_option maxRecDepth 100000 in
theorem bcheck_used (b : Nat) (w : World) (h0 : w.cell? ⟨b, 0, none⟩ = some (.pointer (some ⟨b, 0, none⟩))) :
    Calls Tryd.prog 53 #[.pointer (some ⟨b, 0, none⟩)] w fun e w' => e = .returned (.tuple #[]) ∧ w' = w := by
  obtain ⟨j, hj, _⟩ := Option.map_eq_some_iff.1 bsize
  go_enter Tryd.func53, Tryd.ntmps53
  go_wp2
  rw [Lib.run_neq_ptr_same w _ Tryd.underlying69 hj]
  go_wp2
  go_end0
  exact ⟨rfl, rfl⟩
set_option maxRecDepth 20000 in
set_option maxHeartbeats 1000000 in
set_option maxRecDepth 100000 in
theorem bcheck_fresh (b : Nat) (w : World) (h0 : w.cell? ⟨b, 0, none⟩ = some (.pointer none)) (hsh : w.shape? b = some (72, 2)) (hfz : w.frozen? ⟨b, 0, none⟩ = false) :
    Calls Tryd.prog 53 #[.pointer (some ⟨b, 0, none⟩)] w fun e w' => e = .returned (.tuple #[]) ∧ w' = w.setCell ⟨b, 0, none⟩ (.pointer (some ⟨b, 0, none⟩)) := by
  obtain ⟨j, hj, hjs⟩ := Option.map_eq_some_iff.1 bsize
  go_enter Tryd.func53, Tryd.ntmps53
  go_wp2
  rw [Lib.run_to_unsafe w ⟨b, 0, none⟩ Tryd.underlying69 Tryd.underlying105 hj (by rw [hjs]; decide) hsh (Nat.zero_lt_succ 1)]
  simp only [Result.andThen]
  rw [Oper.upon_value]
  go_wp2
  rw [run_callFunc_extern Tryd.func68 (by kernel_rfl) (by kernel_rfl) (by kernel_rfl) (e := Extern.AbiNoEscape.same) (by kernel_rfl)]
  rw [Lib.run_noEscape]
  simp only [Result.andThen]
  rw [Oper.upon_value]
  go_wp2
  rw [Lib.run_from_unsafe w ⟨b, 0, none⟩ Tryd.underlying105 Tryd.underlying69 hj hsh blies]
  simp only [Result.andThen]
  rw [Oper.upon_value]
  go_wp2
  go_end0
  exact ⟨rfl, rfl⟩
theorem bcheck (B b : Nat) (l : List UInt8) (w : World) (h : Bld w B b l) :
    Calls Tryd.prog 53 #[.pointer (some ⟨b, 0, none⟩)] w fun e w' => e = .returned (.tuple #[]) ∧ (Lib.BuilderAtF 72 5 B b (.pointer (some ⟨b, 0, none⟩)) (Lib.byteCells l) w' ∧ Below B w w' ∧ Lib.OthersKept 5 (some b) w w') := by
  rcases h with h | h
  · refine (bcheck_fresh b w h.cell0 h.shape h.frozen0).mono ?_
    rintro e w' ⟨rfl, rfl⟩
    exact ⟨rfl, h.used _, (Below.refl B w).setCell (p := ⟨b, 0, none⟩) h.1 _, (Lib.OthersKept.refl _ _ w).setCell ⟨b, 0, none⟩ rfl _⟩
  · refine (bcheck_used b w h.cell0).mono ?_
    rintro e w' ⟨rfl, rfl⟩
    exact ⟨rfl, h, Below.refl B _, Lib.OthersKept.refl _ _ _⟩
theorem binfo : ∃ i0, Tryd.prog.info? 5 = some i0 ∧ i0.zero = some (.int .u8 0) ∧ i0.size = 1 ∧ i0.bytes = 1 := by
  obtain ⟨i0, h1, h2, h3, h4⟩ := info_parts bext169.infoByte
  exact ⟨i0, h1, h2, h3, h4⟩
set_option maxRecDepth 20000 in
set_option maxHeartbeats 2000000 in
set_option maxRecDepth 100000 in
theorem bwbyte (B b : Nat) (l : List UInt8) (c : UInt8) (z : Int) (hz : z = (c.toNat : Int)) (w : World) (h : Bld w B b l) (hlen : l.length + 1 ≤ 140737488355328) (hBw : B ≤ w.heap.size) :
    Calls Tryd.prog 31 #[.pointer (some ⟨b, 0, none⟩), .int .u8 z] w fun e w' => e = .returned .nilIface ∧ Bld w' B b (l ++ [c]) ∧ Below B w w' ∧ Lib.OthersKept 5 (some b) w w' := by
  obtain ⟨i0, hi, hz0, hz1, hz2⟩ := binfo
  have hbl : (Lib.byteCells l).length = l.length := Lib.byteCells_length l
  have HL := hide hbl
  have HH := hide h
  have HZ : Hid (z = (c.toNat : Int)) := hz
  clear hbl h hz
  go_enter Tryd.func31, Tryd.ntmps31
  go_wp2_with fail
  refine (bcheck B b l _ HH.out).mono ?_
  rintro e w1 ⟨rfl, h1, hb1, hk1⟩
  obtain ⟨hB, v, hbk, hown, hne⟩ := h1
  have c0 : w1.cell? ⟨b, 0, none⟩ = some (.pointer (some ⟨b, 0, none⟩)) := by rw [Lib.cell_of_heap hbk]; rfl
  have c1 : w1.cell? ⟨b, 1, none⟩ = some v := by rw [Lib.cell_of_heap hbk]; rfl
  go_wp2_with (at_builtin; refine wpList_append_ownF _ rfl _ _ 70 rfl B 5 i0 (.int .u8 0) 1 1 Tryd.underlying70 hi hz0 hz1 hz2 rfl (by decide) _ _ _ rfl (hown.alloc _) ⟨w1.heap.size, 0, none⟩ 1 1 [.int .u8 z] rfl rfl ?c1 ?c2 ?c3 ?c4 ?c5 ?_)
  case c1 =>
    intro j u hj
    match j, hj with
    | 0, hj => simp at hj; subst hj; simp [Addr.add]
  case c2 => intro u hu; simp at hu; subst hu; rfl
  case c3 => have := HL.out; unfold maxLen; omega
  case c4 => have := HL.out; omega
  case c5 => have := hb1.size; simp; omega
  intro v' w2 hown' hgrow _
  have hlt : b < w1.heap.size := lt_of_heap hbk
  have hb2 : w2.heap[b]? = some (.cells #[.pointer (some ⟨b, 0, none⟩), v] 72 (0, 0)) := by
    rw [hgrow.block b (by simp; omega) (fun e => hne e.symm), Lib.alloc_old w1 _ b hlt]
    exact hbk
  have d0 : w2.cell? ⟨b, 0, none⟩ = some (.pointer (some ⟨b, 0, none⟩)) := by rw [Lib.cell_of_heap hb2]; rfl
  have d1 : w2.cell? ⟨b, 1, none⟩ = some v := by rw [Lib.cell_of_heap hb2]; rfl
  have f1 : w2.frozen? ⟨b, 1, none⟩ = false := Lib.frozen_of_heap hb2 1
  obtain ⟨g, cap, rfl⟩ : ∃ g cap, v' = .slice (some ⟨g, 0, none⟩) ((Lib.byteCells l).length + 1) cap := by
    rcases hown'.2 with ⟨_, h0⟩ | ⟨g, cap, cur, fz, hv, _⟩
    · omega
    · exact ⟨g, cap, hv⟩
  go_wp2
  go_ret
  refine ⟨rfl, ?_, ?_, ((hk1.alloc _).grown hgrow (Lib.ownsRowF_kind (hown.alloc _))).setCell ⟨b, 1, none⟩ rfl _⟩
  · unfold Bld
    rw [Lib.byteCells_append]
    have hcc : Lib.byteCells [c] = [.int .u8 z] := by rw [HZ.out]; rfl
    rw [hcc]
    exact .inr (Lib.BuilderAtF.put (T := 72) (e := 5) hB hb2 (bs' := Lib.byteCells l ++ [.int .u8 z]) (by simpa using hown') bext169.neB5)
  · exact ((hb1.alloc (by have := hb1.size; omega) _).grown hgrow (by have := hb1.size; simp; omega) (fun k hk => (hown.lt k hk).1)).setCell (p := ⟨b, 1, none⟩) hB _
set_option maxRecDepth 20000 in
set_option maxHeartbeats 2000000 in
set_option maxRecDepth 100000 in
theorem bwstr (B b : Nat) (l : List UInt8) (s : ByteArray) (w : World) (h : Bld w B b l) (hlen : l.length + s.size ≤ 140737488355328) (hBw : B ≤ w.heap.size) :
    Calls Tryd.prog 32 #[.pointer (some ⟨b, 0, none⟩), .string s] w fun e w' => e = .returned (.tuple #[.int .i64 s.size, .nilIface]) ∧ Bld w' B b (l ++ s.data.toList) ∧ Below B w w' ∧ Lib.OthersKept 5 (some b) w w' := by
  obtain ⟨i0, hi, hz0, hz1, hz2⟩ := binfo
  have hbl : (Lib.byteCells l).length = l.length := Lib.byteCells_length l
  have HL := hide hbl
  have HH := hide h
  clear hbl h
  go_enter Tryd.func32, Tryd.ntmps32
  go_wp2_with fail
  refine (bcheck B b l _ HH.out).mono ?_
  rintro e w1 ⟨rfl, h1, hb1, hk1⟩
  obtain ⟨hB, v, hbk, hown, hne⟩ := h1
  have c0 : w1.cell? ⟨b, 0, none⟩ = some (.pointer (some ⟨b, 0, none⟩)) := by rw [Lib.cell_of_heap hbk]; rfl
  have c1 : w1.cell? ⟨b, 1, none⟩ = some v := by rw [Lib.cell_of_heap hbk]; rfl
  go_wp2_with (at_builtin; refine Lib.wpList_append_own_stringF _ rfl _ _ 70 9 rfl B 5 i0 Tryd.underlying70 Tryd.underlying9 hi hz0 hz1 hz2 _ _ _ rfl hown s rfl ?c3 ?c4 ?c5 ?_)
  case c3 => have := HL.out; unfold maxLen; omega
  case c4 => have := HL.out; omega
  case c5 => have := hb1.size; omega
  intro v' w2 hown' hgrow _
  have hlt : b < w1.heap.size := lt_of_heap hbk
  have hb2 : w2.heap[b]? = some (.cells #[.pointer (some ⟨b, 0, none⟩), v] 72 (0, 0)) := by
    rw [hgrow.block b hlt (fun e => hne e.symm)]
    exact hbk
  have d0 : w2.cell? ⟨b, 0, none⟩ = some (.pointer (some ⟨b, 0, none⟩)) := by rw [Lib.cell_of_heap hb2]; rfl
  have d1 : w2.cell? ⟨b, 1, none⟩ = some v := by rw [Lib.cell_of_heap hb2]; rfl
  have f1 : w2.frozen? ⟨b, 1, none⟩ = false := Lib.frozen_of_heap hb2 1
  obtain ⟨ao, n', cap, rfl⟩ : ∃ ao n' cap, v' = .slice ao n' cap := by
    rcases hown'.2 with ⟨hv, _⟩ | ⟨g, cap, cur, fz, hv, _⟩
    · exact ⟨_, _, _, hv⟩
    · exact ⟨_, _, _, hv⟩
  go_wp2
  go_ret2
  refine ⟨rfl, ?_, ?_, (hk1.grown hgrow (Lib.ownsRowF_kind hown)).setCell ⟨b, 1, none⟩ rfl _⟩
  · unfold Bld
    rw [Lib.byteCells_append]
    have hcc : Lib.byteCells s.data.toList = Lib.strCells s := by rfl
    rw [hcc]
    exact .inr (Lib.BuilderAtF.put (T := 72) (e := 5) hB hb2 (bs' := Lib.byteCells l ++ Lib.strCells s) (by simpa [Lib.strCells_length] using hown') bext169.neB5)
  · exact (hb1.grown hgrow (by have := hb1.size; omega) (fun k hk => (hown.lt k hk).1)).setCell (p := ⟨b, 1, none⟩) hB _
theorem bstring (B b : Nat) (l : List UInt8) (w : World) (h : Bld w B b l) (hBw : B ≤ w.heap.size) :
    Calls Tryd.prog 33 #[.pointer (some ⟨b, 0, none⟩)] w fun e w' => e = .returned (.string ⟨l.toArray⟩) ∧ Below B w w' := by
  refine (Any.Builder_String_any_k Tryd.lays169 bext169 B b l w h hBw).mono ?_
  rintro e w' ⟨rfl, h1, h2, h3⟩
  exact ⟨rfl, h2⟩
end Lm
end YtgfglefgpgckiaaDoor
end Go.Proofs

namespace Go.Proofs.YtgfglefgpgckiaaDoor
namespace Lm
open Go Go.RowKit
def jpre : List ByteArray → List UInt8
  | [] => []
  | x :: r => x.data.toList ++ r.flatMap fun y => 32 :: y.data.toList
theorem jpre_snoc (l : List ByteArray) (x : ByteArray) : jpre (l ++ [x]) = jpre l ++ (if l = [] then [] else [32]) ++ x.data.toList := by
  cases l with
  | nil => simp [jpre]
  | cons y l => simp [jpre, List.flatMap_append]
theorem jpre_le (l : List ByteArray) (i : Nat) : (jpre (l.take i)).length ≤ (jpre l).length := by
  cases l with
  | nil => simp
  | cons x r =>
    cases i with
    | zero => simp [jpre]
    | succ i =>
      simp only [List.take_succ_cons, jpre, List.length_append, List.length_flatMap]
      have : ((r.take i).map fun y => (32 :: y.data.toList).length).sum ≤ (r.map fun y => (32 :: y.data.toList).length).sum := by
        conv => rhs; rw [← List.take_append_drop i r, List.map_append, List.sum_append]
        omega
      omega
def TkB (w : World) (f : Nat) (t : Tk) : Prop := w.heap[f]? = some (.cells #[.int .i64 t.kind, .string t.text, .int .i64 t.pl.b, .int .i64 t.pl.g, .int .i64 t.pl.l, .int .i64 t.pl.c] 35 (0, 0))
set_option maxRecDepth 20000 in
set_option maxHeartbeats 2000000 in
theorem join_any (w : World) (v : Value) (l : List Tk) (ht : Ts w v l) (hz : (jpre (l.map Tk.text)).length ≤ 70368744177664) :
    Calls Tryd.prog 17 #[v] w fun r w' => r = .returned (.string ⟨(jpre (l.map Tk.text)).toArray⟩) ∧ Below w.heap.size w w' := by
  obtain ⟨ao, cap, rfl, hn0⟩ := ht.parts
  have HT := hide ht
  have HZ := hide hz
  clear ht hz
  obtain ⟨n, hn⟩ : ∃ n, l.length = n := ⟨_, rfl⟩
  have HN := hide hn
  rw [hn] at hn0 ⊢
  simp only [hn] at HT
  clear hn
  go_enter Tryd.func17, Tryd.ntmps17
  go_wp2_with fail
  have hb0 : Bld (w.alloc (.cells #[.pointer none, .slice none 0 0] 72)) w.heap.size w.heap.size [] := Lib.IsBuilderF.of (Lib.fresh_isBuilder 72 5 w)
  have hbw : Below w.heap.size w (w.alloc (.cells #[.pointer none, .slice none 0 0] 72)) := (Below.refl _ _).alloc (Nat.le_refl _) _
  have hsz : w.heap.size < (w.alloc (.cells #[.pointer none, .slice none 0 0] 72)).heap.size := by rw [World.size_alloc]; omega
  generalize w.alloc (.cells #[.pointer none, .slice none 0 0] 72) = w0 at hb0 hbw hsz ⊢
  have HB0 := hide hb0
  have HBW := hide hbw
  clear hb0 hbw
  go_loopw [8] (fun iv wr => ∃ (i : Nat), iv = .int .i64 i ∧ i ≤ n ∧ Bld wr w.heap.size w.heap.size (jpre ((l.map Tk.text).take i)) ∧ Below w.heap.size w wr ∧ w.heap.size < wr.heap.size) (fun iv _ => n - (intOf iv).toNat)
  case atStart => exact ⟨0, rfl, Nat.zero_le _, by simpa [jpre] using HB0.out, HBW.out, hsz⟩
  case round =>
    clear HB0 HBW hsz
    obtain ⟨i, rfl, hi, hB, hbw, hsz⟩ := hrel
    have HB := hide hB
    have HW := hide hbw
    clear hB
    by_cases hlt : i < n
    · have h1 : l[i]? = some (l[i]'(by rw [HN.out]; exact hlt)) := List.getElem?_eq_getElem _
      obtain ⟨b, off, rfl, g⟩ := HT.out.tok h1
      have hst : (l.map Tk.text).take (i + 1) = (l.map Tk.text).take i ++ [(l[i]'(by rw [HN.out]; exact hlt)).text] := by
        rw [List.take_add_one, List.getElem?_map, h1]; rfl
      generalize l[i]'(by rw [HN.out]; exact hlt) = t at h1 g hst
      have hle := jpre_le (l.map Tk.text) (i + 1)
      have hz := HZ.out
      have hnl : (l.map Tk.text).take i = [] ↔ i = 0 := by
        constructor
        · intro h
          have := congrArg List.length h
          simp at this
          rcases this with h | h
          · exact h
          · rw [h] at h1; simp at h1
        · rintro rfl; rfl
      rw [hst, jpre_snoc] at hle
      have HST := hide hst
      generalize hJ : jpre ((l.map Tk.text).take i) = J at hle HB
      obtain ⟨_, a0, a1, a2, a3, a4, a5⟩ := g.below hbw
      have hlt' : (i : Int) < (n : Int) := by omega
      have HSX : Hid (t.text.size = t.text.data.toList.length) := rfl
      clear g h1 hbw hst
      by_cases h0 : i = 0
      · have hi0 : decide ((0 : Int) < (i : Int)) = false := by simp; omega
        have hi1 : decide (0 < i) = false := by simp; omega
        have H0 := hide h0
        rw [if_pos (hnl.2 h0), List.append_nil] at hle
        have HLE := hide hle
        clear h0 hle
        go_wp2_with fail
        have hTk : TkB (wr.alloc (.cells #[.int .i64 t.kind, .string t.text, .int .i64 t.pl.b, .int .i64 t.pl.g, .int .i64 t.pl.l, .int .i64 t.pl.c] 35)) wr.heap.size t := heap_alloc_new wr _
        have hB1 : Bld (wr.alloc (.cells #[.int .i64 t.kind, .string t.text, .int .i64 t.pl.b, .int .i64 t.pl.g, .int .i64 t.pl.l, .int .i64 t.pl.c] 35)) w.heap.size w.heap.size J := Lib.IsBuilderF.alloc HB.out _
        have hW1 : Below w.heap.size w (wr.alloc (.cells #[.int .i64 t.kind, .string t.text, .int .i64 t.pl.b, .int .i64 t.pl.g, .int .i64 t.pl.l, .int .i64 t.pl.c] 35)) := HW.out.alloc HW.out.size _
        have hs1 : w.heap.size < (wr.alloc (.cells #[.int .i64 t.kind, .string t.text, .int .i64 t.pl.b, .int .i64 t.pl.g, .int .i64 t.pl.l, .int .i64 t.pl.c] 35)).heap.size := by rw [World.size_alloc]; omega
        generalize wr.alloc (.cells #[.int .i64 t.kind, .string t.text, .int .i64 t.pl.b, .int .i64 t.pl.g, .int .i64 t.pl.l, .int .i64 t.pl.c] 35) = w1 at hTk hB1 hW1 hs1 ⊢
        generalize hf : wr.heap.size = f at hTk ⊢
        have HTk := hide hTk
        have HB1 := hide hB1
        have HW1 := hide hW1
        have hfne : f ≠ w.heap.size := by omega
        clear hTk hB1 hW1 a0 a1 a2 a3 a4 a5 HB HW hf
        have c1 : w1.cell? ⟨f, 1, none⟩ = some (.string t.text) := by rw [cell_of_row w1 f 1 _ _ _ HTk.out]; rfl
        go_wp2_with fail
        refine (bwstr w.heap.size w.heap.size J t.text w1 HB1.out (by have := HSX.out; have hle := HLE.out; rw [List.length_append] at hle; omega) (by omega)).mono ?_
        rintro r w2 ⟨rfl, hB2, hb2, hk2⟩
        have HB2 := hide hB2
        have HW2 := hide (HW1.out.trans (hb2.mono (Nat.le_refl _)))
        have hs2 : w.heap.size < w2.heap.size := Nat.lt_of_lt_of_le hs1 hb2.size
        clear hB2 hb2 hk2
        go_wp2
        go_roundw
        case rel => exact ⟨i + 1, by go_num, by omega, by rw [HST.out, jpre_snoc, if_pos (hnl.2 H0.out), List.append_nil, hJ]; exact HB2.out, HW2.out, hs2⟩
        case measure => simp [intOf]; omega
      · have hi0 : (0 : Int) < (i : Int) := by omega
        rw [if_neg (fun h => h0 (hnl.1 h))] at hle
        simp only [List.length_append, List.length_cons, List.length_nil] at hle
        have HLE := hide hle
        clear hle
        go_wp2_with fail
        have hTk : TkB (wr.alloc (.cells #[.int .i64 t.kind, .string t.text, .int .i64 t.pl.b, .int .i64 t.pl.g, .int .i64 t.pl.l, .int .i64 t.pl.c] 35)) wr.heap.size t := heap_alloc_new wr _
        have hB1 : Bld (wr.alloc (.cells #[.int .i64 t.kind, .string t.text, .int .i64 t.pl.b, .int .i64 t.pl.g, .int .i64 t.pl.l, .int .i64 t.pl.c] 35)) w.heap.size w.heap.size J := Lib.IsBuilderF.alloc HB.out _
        have hW1 : Below w.heap.size w (wr.alloc (.cells #[.int .i64 t.kind, .string t.text, .int .i64 t.pl.b, .int .i64 t.pl.g, .int .i64 t.pl.l, .int .i64 t.pl.c] 35)) := HW.out.alloc HW.out.size _
        have hs1 : w.heap.size < (wr.alloc (.cells #[.int .i64 t.kind, .string t.text, .int .i64 t.pl.b, .int .i64 t.pl.g, .int .i64 t.pl.l, .int .i64 t.pl.c] 35)).heap.size := by rw [World.size_alloc]; omega
        generalize wr.alloc (.cells #[.int .i64 t.kind, .string t.text, .int .i64 t.pl.b, .int .i64 t.pl.g, .int .i64 t.pl.l, .int .i64 t.pl.c] 35) = w1 at hTk hB1 hW1 hs1 ⊢
        generalize hf : wr.heap.size = f at hTk ⊢
        have HTk := hide hTk
        have HB1 := hide hB1
        have HW1 := hide hW1
        have hfne : f ≠ w.heap.size := by omega
        clear hTk hB1 hW1 a0 a1 a2 a3 a4 a5 HB HW hf
        refine (bwbyte w.heap.size w.heap.size J 32 32 rfl w1 HB1.out (by have := HLE.out; omega) (by omega)).mono ?_
        rintro r w2 ⟨rfl, hB2, hb2, hk2⟩
        have HB2 := hide hB2
        have HW2 := hide (HW1.out.trans (hb2.mono (Nat.le_refl _)))
        have hs2 : w.heap.size < w2.heap.size := Nat.lt_of_lt_of_le hs1 hb2.size
        have hTk2 : TkB w2 f t := hk2 f _ HTk.out (fun e1 => hfne (Option.some.inj e1)) (fun _ _ e1 => by cases e1)
        have c1 : w2.cell? ⟨f, 1, none⟩ = some (.string t.text) := by rw [cell_of_row w2 f 1 _ _ _ hTk2]; rfl
        clear hB2 hb2 hk2 hTk2
        go_wp2_with fail
        refine (bwstr w.heap.size w.heap.size (J ++ [32]) t.text w2 HB2.out (by have := HSX.out; have := HLE.out; rw [List.length_append, List.length_singleton]; omega) (by omega)).mono ?_
        rintro r w3 ⟨rfl, hB3, hb3, hk3⟩
        have HB3 := hide hB3
        have HW3 := hide (HW2.out.trans (hb3.mono (Nat.le_refl _)))
        have hs3 : w.heap.size < w3.heap.size := Nat.lt_of_lt_of_le hs2 hb3.size
        clear hB3 hb3 hk3
        go_wp2
        go_roundw
        case rel => exact ⟨i + 1, by go_num, by omega, by rw [HST.out, jpre_snoc, if_neg (fun h => h0 (hnl.1 h)), hJ]; exact HB3.out, HW3.out, hs3⟩
        case measure => simp [intOf]; omega
    · have hlt' : decide ((i : Int) < (n : Int)) = false := by simp; omega
      have hin : i = n := by omega
      have hta : (l.map Tk.text).take i = l.map Tk.text := by rw [List.take_of_length_le]; simp; have := HN.out; omega
      rw [hta] at HB
      clear hbw hta
      go_wp2_with fail
      refine (bstring w.heap.size w.heap.size _ wr HB.out (by omega)).mono ?_
      rintro r w2 ⟨rfl, hb2⟩
      go_wp2
      go_ret
      exact ⟨by rfl, HW.out.trans hb2⟩
end Lm
end Go.Proofs.YtgfglefgpgckiaaDoor

namespace Go.Proofs.YtgfglefgpgckiaaDoor
namespace Lm
open Go Go.RowKit
theorem join_codes (l0 : List (Int × ByteArray)) (hW : ∀ t ∈ l0, WrP t.1 t.2 t.2) : ∃ ps : List (List Nat × Int × ByteArray), (∀ p ∈ ps, Pc p.1 p.2.1 p.2.2 ∧ ∀ c ∈ p.1, Cod c) ∧ (ps.map fun p => p.2) = l0 ∧ (ps.map fun p => bts (encs p.1)) = l0.map fun t => t.2 := by
  induction l0 with
  | nil => exact ⟨[], by simp, rfl, rfl⟩
  | cons t l0 ih =>
    obtain ⟨ps, h1, h2, h3⟩ := ih fun u hu => hW u (by simp [hu])
    obtain ⟨u, u1, u2, u3⟩ := hW t (by simp)
    refine ⟨(u, t) :: ps, ?_, by simp [h2], by simp [h3, ← u2]⟩
    intro p hp
    rcases List.mem_cons.1 hp with rfl | hp
    · exact ⟨u3, u1⟩
    · exact h1 p hp
theorem jpre_end (xs : List ByteArray) : jpre (xs ++ [⟨#[]⟩]) = xs.flatMap fun x => x.data.toList ++ [32] := by
  have key : ∀ (r : List ByteArray) (x : ByteArray), x.data.toList ++ ((r ++ [(⟨#[]⟩ : ByteArray)]).flatMap fun y => (32 : UInt8) :: y.data.toList) = (x :: r).flatMap fun x => x.data.toList ++ [32] := by
    intro r
    induction r with
    | nil => intro x; simp
    | cons y r ih =>
      intro x
      have := ih y
      rw [List.flatMap_cons] at this
      rw [List.cons_append, List.flatMap_cons, List.flatMap_cons, List.flatMap_cons, ← this]
      simp
  cases xs with
  | nil => simp [jpre]
  | cons x xs => exact key xs x
theorem bts_toList (a : List UInt8) : (bts a).data.toList = a := by simp [bts]
theorem join_again (l0 : List (Int × ByteArray)) (hW : ∀ t ∈ l0, WrP t.1 t.2 t.2) : ∃ cs, (∀ c ∈ cs, Cod c) ∧ jpre ((l0 ++ [((0 : Int), (⟨#[]⟩ : ByteArray))]).map fun t => t.2) = encs cs ∧ ScanC cs (l0 ++ [(0, ⟨#[]⟩)]) := by
  obtain ⟨ps, h1, h2, h3⟩ := join_codes l0 hW
  refine ⟨(ps.flatMap fun p => p.1 ++ [32]) ++ [], ?_, ?_, ?_⟩
  · intro c hc
    rw [List.append_nil] at hc
    obtain ⟨p, hp, hc⟩ := List.mem_flatMap.1 hc
    rcases List.mem_append.1 hc with hc | hc
    · exact (h1 p hp).2 c hc
    · simp at hc; subst hc; unfold Cod; omega
  · rw [List.map_append, List.map_cons, List.map_nil, jpre_end, ← h3, List.append_nil, List.flatMap_map]
    clear h1 h2 h3
    induction ps with
    | nil => rfl
    | cons p ps ih =>
      rw [List.flatMap_cons, List.flatMap_cons, ih, encs_append, bts_toList, encs_append]
      rfl
  · rw [← h2]
    exact scan_pieces (b := 32) (by decide) [] rfl ps fun p hp => (h1 p hp).1
theorem jpre_short (l : List ByteArray) (h : ∀ x ∈ l, x.size ≤ 400) : (jpre l).length ≤ 401 * l.length := by
  have key : ∀ r : List ByteArray, (∀ x ∈ r, x.size ≤ 400) → (r.flatMap fun y => 32 :: y.data.toList).length ≤ 401 * r.length := by
    intro r
    induction r with
    | nil => intro _; simp
    | cons y r ih =>
      intro h
      have h1 := ih fun x hx => h x (by simp [hx])
      have h2 : y.data.toList.length ≤ 400 := h y (by simp)
      rw [List.flatMap_cons, List.length_append, List.length_cons, List.length_cons]
      omega
  cases l with
  | nil => simp [jpre]
  | cons x r =>
    have h1 := key r fun y hy => h y (by simp [hy])
    have h2 : x.data.toList.length ≤ 400 := h x (by simp)
    simp only [jpre, List.length_append, List.length_cons]
    omega
theorem ins_ok (C : List Nat) (hC : ∀ c ∈ C, 32 ≤ c ∧ c < 127) : Ins ([9, 32, 35] ++ (C ++ [10, 32, 12288])) := by
  have key : ∀ (C : List Nat), (∀ c ∈ C, 32 ≤ c ∧ c < 127) → ∀ r, skc true (C ++ [10, 32, 12288] ++ r) = skc false r := by
    intro C
    induction C with
    | nil => intro _ r; rfl
    | cons c C ih =>
      intro h r
      have := h c (by simp)
      rw [List.cons_append, List.cons_append, skc, show decide (c ≠ 10) = true from by simp; omega]
      exact ih (fun d hd => h d (by simp [hd])) r
  refine ⟨⟨9, _, rfl, by decide⟩, fun c r => ?_⟩
  have e : [9, 32, 35] ++ (C ++ [10, 32, 12288]) ++ r = 9 :: 32 :: 35 :: (C ++ [10, 32, 12288] ++ r) := by simp
  rw [e]
  cases c with
  | true => exact key C hC r
  | false => exact key C hC r
theorem extract_low (s : ByteArray) (a r : List UInt8) (h : s.data.toList = a ++ r) : s.extract 0 a.length = bts a := by
  have hd : (s.extract 0 a.length).data.toList = a := by
    rw [ByteArray.data_extract, Array.toList_extract, List.extract_eq_take_drop, h]
    simp
  exact ba_ext hd
theorem extract_high (s : ByteArray) (a r : List UInt8) (h : s.data.toList = a ++ r) : s.extract a.length s.size = bts r := by
  have hz : s.size = a.length + r.length := by
    have : s.data.toList.length = s.size := rfl
    rw [← this, h]; simp
  have hd : (s.extract a.length s.size).data.toList = r := by
    rw [ByteArray.data_extract, Array.toList_extract, List.extract_eq_take_drop, h, hz]
    simp
  exact ba_ext hd
theorem again_eq (ca C cr : List Nat) (A : ByteArray) (hA : A = bts (encs C)) : bts (encs ca) ++ ⟨#[9, 32, 35]⟩ ++ A ++ ⟨#[10, 32, 227, 128, 128]⟩ ++ bts (encs cr) = bts (encs (ca ++ ([9, 32, 35] ++ (C ++ [10, 32, 12288]) ++ cr))) := by
  have h1 : (⟨#[9, 32, 35]⟩ : ByteArray) = bts (encs [9, 32, 35]) := by rfl
  have h2 : (⟨#[10, 32, 227, 128, 128]⟩ : ByteArray) = bts (encs [10, 32, 12288]) := by rfl
  rw [hA, h1, h2, bts_append, bts_append, bts_append, bts_append, encs_append, encs_append, encs_append, encs_append]
  congr 1
  simp only [List.append_assoc]
def CmI (A : ByteArray) (i : Nat) : Prop := ∃ C : List Nat, (∀ c ∈ C, 32 ≤ c ∧ c < 127) ∧ A = bts (encs C) ∧ A.size ≤ i
theorem cmI_more {A : ByteArray} {i : Nat} (h : CmI A i) (m : ByteArray) (hi : i < m.size) (h1 : 32 ≤ (m[i]'hi).toNat) (h2 : (m[i]'hi).toNat < 127) : CmI (A ++ m.extract i (i + 1)) (i + 1) := by
  obtain ⟨C, c1, c2, c3⟩ := h
  have e : m.extract i (i + 1) = bts (encs [(m[i]'hi).toNat]) := by
    refine ba_ext ?_
    rw [show i + 1 = i + (0 + 1) from rfl, ext_one m i hi 0 (by omega), ext_nil]
    rw [encs_ascii _ (by intro c hc; simp at hc; omega)]
    simp only [List.map]
    rw [show m.get! i = m[i]'hi from (getS m i hi).symm]
    rw [← u8_of rfl]
  refine ⟨C ++ [(m[i]'hi).toNat], ?_, ?_, ?_⟩
  · intro c hc
    rcases List.mem_append.1 hc with hc | hc
    · exact c1 c hc
    · simp at hc; omega
  · rw [c2, e, bts_append, encs_append]
  · rw [ByteArray.size_append, ByteArray.size_extract]; omega
theorem CmI.mono {A : ByteArray} {i j : Nat} (h : CmI A i) (hj : i ≤ j) : CmI A j := by
  obtain ⟨C, c1, c2, c3⟩ := h
  exact ⟨C, c1, c2, by omega⟩
set_option maxRecDepth 20000 in
set_option maxHeartbeats 4000000 in
theorem glyphagain_any (w : World) (hT : Tabs w) (s : ByteArray) (kk : Int) (m : ByteArray) (b2 : m.size ≤ reachBytes) :
    Calls Tryd.prog 6 #[.string s, .int .i64 kk, .string m] w fun r w' => r = .returned (.bool true) ∧ Below w.heap.size w w' := by
  simp only [reachBytes] at b2
  have HT := hide hT
  clear hT
  go_enter Tryd.func6, Tryd.ntmps6
  go_wp2_with fail
  refine (gawake_any w HT.out).mono ?_
  rintro r w1 ⟨rfl, hb1⟩
  have HB1 := hide hb1
  clear hb1
  go_wp2_with fail
  refine (scan_two w1 s (HT.out.below HB1.out)).mono ?_
  rintro r w2 ⟨hb2, ⟨k, p, hk, rfl⟩ | ⟨hs, cs, l, v, hcod, hsb, hR, rfl, hown⟩⟩
  · have hk' : (k != 0) = true := by simp [hk]
    have HB2 := hide (HB1.out.trans (hb2.mono HB1.out.size))
    clear hb2 hk
    unfold Pl.v
    go_wp2
    go_ret
    exact ⟨by rfl, HB2.out.alloc HB2.out.size _⟩
  have HB2 := hide (HB1.out.trans (hb2.mono HB1.out.size))
  clear hb2
  have hC := scanR_C s cs [] pl0 rfl (by rw [hsb]; rfl) l hR
  have hshort := hC.short
  obtain ⟨l0, hl0, hW0⟩ := hC.pieces hcod
  have HW : Hid (∀ t ∈ l0, WrP t.1 t.2 t.2) := fun t ht => (hW0 t ht).1
  have hlen : l.length = l0.length + 1 := by have := congrArg List.length hl0; simpa using this
  have hcl : cs.length ≤ 4096 := by
    have h1 : s.data.toList.length = s.size := rfl
    have h2 : ∀ cs : List Nat, cs.length ≤ (encs cs).length := by
      intro cs
      induction cs with
      | nil => simp
      | cons c cs ih => have := encL_pos c; simp only [encs, List.length_append, List.length_cons]; omega
    have := h2 cs
    rw [← hsb] at this
    omega
  have hl2 : l.length ≤ 4097 := by have := hshort.1; simp only [List.length_map] at this; omega
  have HK : Hid ((l.map kx) = l0 ++ [(0, ⟨#[]⟩)]) := hl0
  have hz : (jpre (l.map Tk.text)).length ≤ 401 * l.length := by
    have := jpre_short (l.map Tk.text) (by intro x hx; obtain ⟨t, ht, rfl⟩ := List.mem_map.1 hx; exact hshort.2 (kx t) (List.mem_map.2 ⟨t, ht, rfl⟩))
    simpa using this
  obtain ⟨cj, hcj1, hcj2, hcj3⟩ := join_again l0 HW.out
  have hjt : l.map Tk.text = (l0 ++ [((0 : Int), (⟨#[]⟩ : ByteArray))]).map fun t => t.2 := by rw [← HK.out, List.map_map]; rfl
  rw [hjt, hcj2] at hz
  have HJ : Hid (jpre (l.map Tk.text) = encs cj) := by rw [hjt]; exact hcj2
  have HC1 := hide hcj1
  have HC3 := hide hcj3
  have HR := hide hR
  have HSB := hide hsb
  have HCO := hide hcod
  have HTs : Hid (Ts w2 v l) := Ts.own hown
  obtain ⟨ao, cap, rfl, _⟩ := HTs.out.parts
  obtain ⟨n, hn⟩ : ∃ n, l.length = n := ⟨_, rfl⟩
  have HN := hide hn
  rw [hn] at hlen hl2 hz
  simp only [hn] at HTs ⊢
  have hn0 : 0 < n := by omega
  clear hC hshort hl0 hW0 hcl hown hR hsb hcod hn hlen hcj1 hcj2 hcj3 hjt HW
  unfold Pl.v
  simp only [plz]
  go_wp2_with fail
  have HTs3 := hide (HTs.out.below ((Below.refl _ _).alloc (Nat.le_refl _) (.cells #[.int .i64 0, .int .i64 0, .int .i64 0, .int .i64 0] 25)))
  have HB3 := hide (HB2.out.alloc HB2.out.size (.cells #[.int .i64 0, .int .i64 0, .int .i64 0, .int .i64 0] 25))
  clear HTs HB2
  generalize w2.alloc (.cells #[.int .i64 0, .int .i64 0, .int .i64 0, .int .i64 0] 25) = w3 at HTs3 HB3 ⊢
  refine (join_any w3 _ l HTs3.out (by rw [HJ.out]; omega)).mono ?_
  rw [HJ.out]
  rintro r w4 ⟨rfl, hb4⟩
  have HTs4 := hide (HTs3.out.below hb4)
  have HB4 := hide (HB3.out.trans (hb4.mono HB3.out.size))
  clear hb4 HTs3 HB3
  by_cases hbig : 4096 < (encs cj).length
  · have hbz : decide (((bts (encs cj)).size : Int) ≤ (4096 : Int)) = false := by rw [bts_size]; simp; omega
    have hbn : 4096 < (bts (encs cj)).size := by rw [bts_size]; omega
    have KL := hide (fun W => scan_long W _ hbn)
    rw [show (⟨(encs cj).toArray⟩ : ByteArray) = bts (encs cj) from rfl]
    generalize bts (encs cj) = J at hbz KL ⊢
    go_wp2_with fail
    refine (KL.out _).mono ?_
    rintro r w5' ⟨hb5, rfl⟩
    have HB5' := hide (HB4.out.trans (hb5.mono HB4.out.size))
    have HTs5' := hide (HTs4.out.below hb5)
    clear hb5
    unfold Pl.v
    simp only [plz]
    go_wp2_with fail
    have HTs5 := hide (HTs5'.out.below ((Below.refl _ _).alloc (Nat.le_refl _) (.cells #[.int .i64 0, .int .i64 0, .int .i64 0, .int .i64 0] 25)))
    have HB5 := hide (HB5'.out.alloc HB5'.out.size (.cells #[.int .i64 0, .int .i64 0, .int .i64 0, .int .i64 0] 25))
    clear HTs5' HB5' HTs4 HB4
    generalize w5'.alloc (.cells #[.int .i64 0, .int .i64 0, .int .i64 0, .int .i64 0] 25) = w5 at HTs5 HB5 ⊢
    go_loopw [14, 15] (fun cv iv wr => ∃ (A : ByteArray) (i : Nat), cv = .string A ∧ iv = .int .i64 i ∧ i ≤ m.size ∧ CmI A i ∧ wr = w5) (fun _ iv _ => m.size - (intOf iv).toNat)
    case atStart => exact ⟨⟨#[]⟩, 0, rfl, rfl, Nat.zero_le _, ⟨[], by simp, rfl, Nat.le_refl _⟩, rfl⟩
    case round =>
      obtain ⟨A, i, rfl, rfl, hi, hA, rfl⟩ := hrel
      have HA := hide hA
      have hAz : A.size ≤ i := by obtain ⟨_, _, _, h⟩ := hA; exact h
      clear hA
      by_cases hlt : i < m.size
      · have hlt' : (i : Int) < (m.size : Int) := by omega
        have hm := hide (cmI_more HA.out m hlt)
        have hadd : ∀ w, (Op.stringOp .add A (m.extract i (i + 1))).run Tryd.prog w = .ok (.string (A ++ m.extract i (i + 1))) w := fun w => run_string_add_sum (P := Tryd.prog) w A _ (by rw [ByteArray.size_extract]; omega)
        go_wp2
        all_goals first
          | (go_roundw
             case rel =>
               refine ⟨_, i + 1, rfl, by go_num, by omega, ?_, rfl⟩
               first | exact hm.out (by omega) (by omega) | exact HA.out.mono (by omega)
             case measure => simp [intOf]; omega)
          | (constructor
             · first
               | exact ⟨_, i + 1, rfl, rfl, by omega, hm.out (by omega) (by omega), trivial⟩
               | exact ⟨_, i + 1, rfl, rfl, by omega, HA.out.mono (by omega), trivial⟩
               | exact ⟨i + 1, rfl, by omega, HA.out.mono (by omega)⟩
               | (refine ⟨_, _, _, _, _, _, _, _, _, _, _, _, _, _, _, _, _, _, _, _, _, _, _, _, _, ?_, rfl⟩
                  exact ⟨_, i + 1, rfl, rfl, by omega, hm.out (by omega) (by omega), by trivial⟩)
               | (refine ⟨_, _, _, _, _, _, _, _, _, _, _, _, _, _, _, _, _, _, _, _, _, _, _, _, _, ?_, rfl⟩
                  exact ⟨_, i + 1, rfl, rfl, by omega, HA.out.mono (by omega), by trivial⟩)
             · simp [intOf]; omega)
      · have hlt' : decide ((i : Int) < (m.size : Int)) = false := by simp; omega
        have him : i = m.size := by omega
        subst him
        obtain ⟨K, eK, hK⟩ : ∃ K : Nat, (bits .and .i64 kk 4611686018427387903).tmod (n : Int) = (K : Int) ∧ K < n := by
          have h1 := and_mask kk
          have h2 := Int.tmod_nonneg (n : Int) h1.1
          have h3 := Int.tmod_lt_of_pos (bits .and .i64 kk 4611686018427387903) (show (0 : Int) < n by omega)
          exact ⟨((bits .and .i64 kk 4611686018427387903).tmod (n : Int)).toNat, by omega, by omega⟩
        have h1 : l[K]? = some (l[K]'(by rw [HN.out]; exact hK)) := List.getElem?_eq_getElem _
        obtain ⟨b, off, rfl, g⟩ := HTs5.out.tok h1
        generalize l[K]'(by rw [HN.out]; exact hK) = t at h1 g
        obtain ⟨_, a0, a1, a2, a3, a4, a5⟩ := g
        obtain ⟨C, c1, c2, c3⟩ := HA.out
        obtain ⟨ca, cr, d1, d2, d3⟩ := scan_ins s _ (ins_ok C c1) cs [] pl0 rfl (by rw [HSB.out]; rfl) l HR.out K t h1
        have hsb2 : s.data.toList = encs ca ++ encs cr := by rw [HSB.out, d1, encs_append]
        have hab : t.pl.b = (encs ca).length := by rw [d2, adv_b]; simp [pl0]
        have hale : (encs ca).length ≤ s.size := by
          have : s.data.toList.length = s.size := rfl
          rw [← this, hsb2, List.length_append]; omega
        have e1 := extract_low s _ _ hsb2
        have e2 := extract_high s _ _ hsb2
        rw [hab] at a2
        have HFin : Hid (bts (encs ca) ++ ⟨#[9, 32, 35]⟩ ++ A ++ ⟨#[10, 32, 227, 128, 128]⟩ ++ bts (encs cr) = bts (encs (ca ++ ([9, 32, 35] ++ (C ++ [10, 32, 12288]) ++ cr)))) := again_eq ca C cr A c2
        have hPz : (bts (encs ca)).size = (encs ca).length := bts_size _
        have hQz : (bts (encs cr)).size ≤ s.size := by
          have : s.data.toList.length = s.size := rfl
          rw [bts_size, ← this, hsb2, List.length_append]; omega
        have HD : Hid (∀ c ∈ ca ++ ([9, 32, 35] ++ (C ++ [10, 32, 12288]) ++ cr), Cod c) := by
          intro c hc
          have hcs : ∀ c ∈ ca ++ cr, Cod c := by rw [← d1]; exact HCO.out
          simp only [List.mem_append, List.mem_cons, List.not_mem_nil, or_false] at hc
          rcases hc with hc | ((hc | hc | hc) | hc | hc | hc | hc) | hc
          · exact hcs c (List.mem_append_left _ hc)
          · subst hc; unfold Cod; omega
          · subst hc; unfold Cod; omega
          · subst hc; unfold Cod; omega
          · have := c1 c hc; unfold Cod; omega
          · subst hc; unfold Cod; omega
          · subst hc; unfold Cod; omega
          · subst hc; unfold Cod; omega
          · exact hcs c (List.mem_append_right _ hc)
        have HD3 := hide d3
        have KS := hide (fun (W : World) (h : Tabs W) (hz : (encs (ca ++ ([9, 32, 35] ++ (C ++ [10, 32, 12288]) ++ cr))).length ≤ 4096) => scan_cs W h _ HD.out _ HD3.out hz)
        have hFz : (bts (encs (ca ++ ([9, 32, 35] ++ (C ++ [10, 32, 12288]) ++ cr)))).size = (encs (ca ++ ([9, 32, 35] ++ (C ++ [10, 32, 12288]) ++ cr))).length := bts_size _
        generalize (encs (ca ++ ([9, 32, 35] ++ (C ++ [10, 32, 12288]) ++ cr))).length = fz at KS hFz
        generalize bts (encs (ca ++ ([9, 32, 35] ++ (C ++ [10, 32, 12288]) ++ cr))) = F at HFin KS hFz
        generalize bts (encs cr) = Q at HFin hQz e2
        generalize bts (encs ca) = P at HFin hPz e1
        generalize (encs ca).length = z at hPz e1 e2 a2 hale
        have q1 : ∀ w, (Op.stringOp .add P ⟨#[9, 32, 35]⟩).run Tryd.prog w = .ok (.string (P ++ ⟨#[9, 32, 35]⟩)) w := fun w => run_string_add_sum (P := Tryd.prog) w _ _ (by show P.size + 3 ≤ _; omega)
        have q2 : ∀ w, (Op.stringOp .add (P ++ ⟨#[9, 32, 35]⟩) A).run Tryd.prog w = .ok (.string (P ++ ⟨#[9, 32, 35]⟩ ++ A)) w := fun w => run_string_add_sum (P := Tryd.prog) w _ _ (by rw [ByteArray.size_append]; show P.size + 3 + A.size ≤ _; omega)
        have q3 : ∀ w, (Op.stringOp .add (P ++ ⟨#[9, 32, 35]⟩ ++ A) ⟨#[10, 32, 227, 128, 128]⟩).run Tryd.prog w = .ok (.string (P ++ ⟨#[9, 32, 35]⟩ ++ A ++ ⟨#[10, 32, 227, 128, 128]⟩)) w := fun w => run_string_add_sum (P := Tryd.prog) w _ _ (by rw [ByteArray.size_append, ByteArray.size_append]; show P.size + 3 + A.size + 5 ≤ _; omega)
        have q4 : ∀ w, (Op.stringOp .add (P ++ ⟨#[9, 32, 35]⟩ ++ A ++ ⟨#[10, 32, 227, 128, 128]⟩) Q).run Tryd.prog w = .ok (.string F) w := by
          intro w
          rw [← HFin.out]
          exact run_string_add_sum (P := Tryd.prog) w _ _ (by rw [ByteArray.size_append, ByteArray.size_append, ByteArray.size_append]; show P.size + 3 + A.size + 5 + Q.size ≤ _; omega)
        generalize P ++ ⟨#[9, 32, 35]⟩ ++ A ++ ⟨#[10, 32, 227, 128, 128]⟩ = S3 at q3 q4
        generalize P ++ ⟨#[9, 32, 35]⟩ ++ A = S2 at q2 q3
        generalize P ++ (⟨#[9, 32, 35]⟩ : ByteArray) = S1 at q1 q2
        have hKn : (K : Int) < (n : Int) := by omega
        have hn1 : ¬ (n : Int) = 0 := by omega
        have hze : (z : Int) ≤ (s.size : Int) := by omega
        clear d1 d2 d3 c1 c2 c3 a0 a1 a3 a4 a5 h1 hsb2 hab HFin HA hPz hQz
        by_cases hfb : 4096 < fz
        · have hF1 : (4096 : Int) < (F.size : Int) := by omega
          have KL := hide (fun W => scan_long W F (by omega))
          go_wp2_with fail
          go_quiet (fail)
          have HB6 := hide (gdrewN HB5.out nq)
          generalize wr.drewN nq = w6 at HB6 ⊢
          go_wp2_with fail
          refine (KL.out _).mono ?_
          rintro r w7 ⟨hb7, rfl⟩
          have HB7 := hide (HB6.out.trans (hb7.mono HB6.out.size))
          clear hb7
          unfold Pl.v
          go_wp2
          go_ret
          exact ⟨by rfl, HB7.out⟩
        · have hF1 : decide ((4096 : Int) < (F.size : Int)) = false := by simp; omega
          go_wp2_with fail
          go_quiet (fail)
          have HB6 := hide (gdrewN HB5.out nq)
          have HTs6 := hide (HTs5.out.below (gdrewN (Below.refl _ _) nq))
          generalize wr.drewN nq = w6 at HB6 HTs6 ⊢
          go_wp2_with fail
          refine (KS.out _ (HT.out.below HB6.out) (by omega)).mono ?_
          rintro r w7 ⟨hb7, l2, v2, hl2', rfl, hown2⟩
          have HB7 := hide (HB6.out.trans (hb7.mono HB6.out.size))
          have HTs7 := hide (HTs6.out.below hb7)
          have HTn2 := hide (Ts.own hown2)
          have HKL2 : Hid (l2.map kx = l.map kx) := hl2'
          clear hb7 hl2' hown2
          obtain ⟨ao2, cap2, rfl, _⟩ := HTn2.out.parts
          unfold Pl.v
          simp only [plz]
          go_wp2_with fail
          refine (alike_eq _ _ _ l2 l HTn2.out HTs7.out HKL2.out).mono ?_
          rintro r w8 ⟨rfl, hb8⟩
          go_wp2
          go_ret
          exact ⟨by rfl, HB7.out.trans (hb8.mono HB7.out.size)⟩
  · have hbz : decide (((bts (encs cj)).size : Int) ≤ (4096 : Int)) = true := by rw [bts_size]; simp; omega
    have KS := hide (fun (W : World) (h : Tabs W) => scan_cs W h cj HC1.out _ HC3.out (by omega))
    rw [show (⟨(encs cj).toArray⟩ : ByteArray) = bts (encs cj) from rfl]
    generalize bts (encs cj) = J at hbz KS ⊢
    go_wp2_with fail
    refine (KS.out _ (HT.out.below HB4.out)).mono ?_
    rintro r w5' ⟨hb5, l', v', hl', rfl, hown'⟩
    have HB5' := hide (HB4.out.trans (hb5.mono HB4.out.size))
    have HTs5' := hide (HTs4.out.below hb5)
    have HTn := hide (Ts.own hown')
    have HKL : Hid (l'.map kx = l.map kx) := hl'.trans HK.out.symm
    clear hb5 hl' hown'
    obtain ⟨ao', cap', rfl, _⟩ := HTn.out.parts
    unfold Pl.v
    simp only [plz]
    go_wp2_with fail
    have hbq : Below w5'.heap.size w5' (w5'.alloc (.cells #[.int .i64 0, .int .i64 0, .int .i64 0, .int .i64 0] 25)) := (Below.refl _ _).alloc (Nat.le_refl _) _
    refine (alike_eq _ _ _ l' l (HTn.out.below hbq) (HTs5'.out.below hbq) HKL.out).mono ?_
    rintro r w5 ⟨rfl, hb6⟩
    have HTs5 := hide ((HTs5'.out.below hbq).below hb6)
    have HB5 := hide ((HB5'.out.trans (hbq.mono HB5'.out.size)).trans (hb6.mono (HB5'.out.trans (hbq.mono HB5'.out.size)).size))
    clear HTs5' HB5' HTs4 HB4 hbq hb6 HTn HKL
    go_wp2_with fail
    go_loopw [14, 15] (fun cv iv wr => ∃ (A : ByteArray) (i : Nat), cv = .string A ∧ iv = .int .i64 i ∧ i ≤ m.size ∧ CmI A i ∧ wr = w5) (fun _ iv _ => m.size - (intOf iv).toNat)
    case atStart => exact ⟨⟨#[]⟩, 0, rfl, rfl, Nat.zero_le _, ⟨[], by simp, rfl, Nat.le_refl _⟩, rfl⟩
    case round =>
      obtain ⟨A, i, rfl, rfl, hi, hA, rfl⟩ := hrel
      have HA := hide hA
      have hAz : A.size ≤ i := by obtain ⟨_, _, _, h⟩ := hA; exact h
      clear hA
      by_cases hlt : i < m.size
      · have hlt' : (i : Int) < (m.size : Int) := by omega
        have hm := hide (cmI_more HA.out m hlt)
        have hadd : ∀ w, (Op.stringOp .add A (m.extract i (i + 1))).run Tryd.prog w = .ok (.string (A ++ m.extract i (i + 1))) w := fun w => run_string_add_sum (P := Tryd.prog) w A _ (by rw [ByteArray.size_extract]; omega)
        go_wp2
        all_goals first
          | (go_roundw
             case rel =>
               refine ⟨_, i + 1, rfl, by go_num, by omega, ?_, rfl⟩
               first | exact hm.out (by omega) (by omega) | exact HA.out.mono (by omega)
             case measure => simp [intOf]; omega)
          | (constructor
             · first
               | exact ⟨_, i + 1, rfl, rfl, by omega, hm.out (by omega) (by omega), trivial⟩
               | exact ⟨_, i + 1, rfl, rfl, by omega, HA.out.mono (by omega), trivial⟩
               | exact ⟨i + 1, rfl, by omega, HA.out.mono (by omega)⟩
               | (refine ⟨_, _, _, _, _, _, _, _, _, _, _, _, _, _, _, _, _, _, _, _, _, _, _, _, _, ?_, rfl⟩
                  exact ⟨_, i + 1, rfl, rfl, by omega, hm.out (by omega) (by omega), by trivial⟩)
               | (refine ⟨_, _, _, _, _, _, _, _, _, _, _, _, _, _, _, _, _, _, _, _, _, _, _, _, _, ?_, rfl⟩
                  exact ⟨_, i + 1, rfl, rfl, by omega, HA.out.mono (by omega), by trivial⟩)
             · simp [intOf]; omega)
      · have hlt' : decide ((i : Int) < (m.size : Int)) = false := by simp; omega
        have him : i = m.size := by omega
        subst him
        obtain ⟨K, eK, hK⟩ : ∃ K : Nat, (bits .and .i64 kk 4611686018427387903).tmod (n : Int) = (K : Int) ∧ K < n := by
          have h1 := and_mask kk
          have h2 := Int.tmod_nonneg (n : Int) h1.1
          have h3 := Int.tmod_lt_of_pos (bits .and .i64 kk 4611686018427387903) (show (0 : Int) < n by omega)
          exact ⟨((bits .and .i64 kk 4611686018427387903).tmod (n : Int)).toNat, by omega, by omega⟩
        have h1 : l[K]? = some (l[K]'(by rw [HN.out]; exact hK)) := List.getElem?_eq_getElem _
        obtain ⟨b, off, rfl, g⟩ := HTs5.out.tok h1
        generalize l[K]'(by rw [HN.out]; exact hK) = t at h1 g
        obtain ⟨_, a0, a1, a2, a3, a4, a5⟩ := g
        obtain ⟨C, c1, c2, c3⟩ := HA.out
        obtain ⟨ca, cr, d1, d2, d3⟩ := scan_ins s _ (ins_ok C c1) cs [] pl0 rfl (by rw [HSB.out]; rfl) l HR.out K t h1
        have hsb2 : s.data.toList = encs ca ++ encs cr := by rw [HSB.out, d1, encs_append]
        have hab : t.pl.b = (encs ca).length := by rw [d2, adv_b]; simp [pl0]
        have hale : (encs ca).length ≤ s.size := by
          have : s.data.toList.length = s.size := rfl
          rw [← this, hsb2, List.length_append]; omega
        have e1 := extract_low s _ _ hsb2
        have e2 := extract_high s _ _ hsb2
        rw [hab] at a2
        have HFin : Hid (bts (encs ca) ++ ⟨#[9, 32, 35]⟩ ++ A ++ ⟨#[10, 32, 227, 128, 128]⟩ ++ bts (encs cr) = bts (encs (ca ++ ([9, 32, 35] ++ (C ++ [10, 32, 12288]) ++ cr)))) := again_eq ca C cr A c2
        have hPz : (bts (encs ca)).size = (encs ca).length := bts_size _
        have hQz : (bts (encs cr)).size ≤ s.size := by
          have : s.data.toList.length = s.size := rfl
          rw [bts_size, ← this, hsb2, List.length_append]; omega
        have HD : Hid (∀ c ∈ ca ++ ([9, 32, 35] ++ (C ++ [10, 32, 12288]) ++ cr), Cod c) := by
          intro c hc
          have hcs : ∀ c ∈ ca ++ cr, Cod c := by rw [← d1]; exact HCO.out
          simp only [List.mem_append, List.mem_cons, List.not_mem_nil, or_false] at hc
          rcases hc with hc | ((hc | hc | hc) | hc | hc | hc | hc) | hc
          · exact hcs c (List.mem_append_left _ hc)
          · subst hc; unfold Cod; omega
          · subst hc; unfold Cod; omega
          · subst hc; unfold Cod; omega
          · have := c1 c hc; unfold Cod; omega
          · subst hc; unfold Cod; omega
          · subst hc; unfold Cod; omega
          · subst hc; unfold Cod; omega
          · exact hcs c (List.mem_append_right _ hc)
        have HD3 := hide d3
        have KS := hide (fun (W : World) (h : Tabs W) (hz : (encs (ca ++ ([9, 32, 35] ++ (C ++ [10, 32, 12288]) ++ cr))).length ≤ 4096) => scan_cs W h _ HD.out _ HD3.out hz)
        have hFz : (bts (encs (ca ++ ([9, 32, 35] ++ (C ++ [10, 32, 12288]) ++ cr)))).size = (encs (ca ++ ([9, 32, 35] ++ (C ++ [10, 32, 12288]) ++ cr))).length := bts_size _
        generalize (encs (ca ++ ([9, 32, 35] ++ (C ++ [10, 32, 12288]) ++ cr))).length = fz at KS hFz
        generalize bts (encs (ca ++ ([9, 32, 35] ++ (C ++ [10, 32, 12288]) ++ cr))) = F at HFin KS hFz
        generalize bts (encs cr) = Q at HFin hQz e2
        generalize bts (encs ca) = P at HFin hPz e1
        generalize (encs ca).length = z at hPz e1 e2 a2 hale
        have q1 : ∀ w, (Op.stringOp .add P ⟨#[9, 32, 35]⟩).run Tryd.prog w = .ok (.string (P ++ ⟨#[9, 32, 35]⟩)) w := fun w => run_string_add_sum (P := Tryd.prog) w _ _ (by show P.size + 3 ≤ _; omega)
        have q2 : ∀ w, (Op.stringOp .add (P ++ ⟨#[9, 32, 35]⟩) A).run Tryd.prog w = .ok (.string (P ++ ⟨#[9, 32, 35]⟩ ++ A)) w := fun w => run_string_add_sum (P := Tryd.prog) w _ _ (by rw [ByteArray.size_append]; show P.size + 3 + A.size ≤ _; omega)
        have q3 : ∀ w, (Op.stringOp .add (P ++ ⟨#[9, 32, 35]⟩ ++ A) ⟨#[10, 32, 227, 128, 128]⟩).run Tryd.prog w = .ok (.string (P ++ ⟨#[9, 32, 35]⟩ ++ A ++ ⟨#[10, 32, 227, 128, 128]⟩)) w := fun w => run_string_add_sum (P := Tryd.prog) w _ _ (by rw [ByteArray.size_append, ByteArray.size_append]; show P.size + 3 + A.size + 5 ≤ _; omega)
        have q4 : ∀ w, (Op.stringOp .add (P ++ ⟨#[9, 32, 35]⟩ ++ A ++ ⟨#[10, 32, 227, 128, 128]⟩) Q).run Tryd.prog w = .ok (.string F) w := by
          intro w
          rw [← HFin.out]
          exact run_string_add_sum (P := Tryd.prog) w _ _ (by rw [ByteArray.size_append, ByteArray.size_append, ByteArray.size_append]; show P.size + 3 + A.size + 5 + Q.size ≤ _; omega)
        generalize P ++ ⟨#[9, 32, 35]⟩ ++ A ++ ⟨#[10, 32, 227, 128, 128]⟩ = S3 at q3 q4
        generalize P ++ ⟨#[9, 32, 35]⟩ ++ A = S2 at q2 q3
        generalize P ++ (⟨#[9, 32, 35]⟩ : ByteArray) = S1 at q1 q2
        have hKn : (K : Int) < (n : Int) := by omega
        have hn1 : ¬ (n : Int) = 0 := by omega
        have hze : (z : Int) ≤ (s.size : Int) := by omega
        clear d1 d2 d3 c1 c2 c3 a0 a1 a3 a4 a5 h1 hsb2 hab HFin HA hPz hQz
        by_cases hfb : 4096 < fz
        · have hF1 : (4096 : Int) < (F.size : Int) := by omega
          have KL := hide (fun W => scan_long W F (by omega))
          go_wp2_with fail
          go_quiet (fail)
          have HB6 := hide (gdrewN HB5.out nq)
          generalize wr.drewN nq = w6 at HB6 ⊢
          go_wp2_with fail
          refine (KL.out _).mono ?_
          rintro r w7 ⟨hb7, rfl⟩
          have HB7 := hide (HB6.out.trans (hb7.mono HB6.out.size))
          clear hb7
          unfold Pl.v
          go_wp2
          go_ret
          exact ⟨by rfl, HB7.out⟩
        · have hF1 : decide ((4096 : Int) < (F.size : Int)) = false := by simp; omega
          go_wp2_with fail
          go_quiet (fail)
          have HB6 := hide (gdrewN HB5.out nq)
          have HTs6 := hide (HTs5.out.below (gdrewN (Below.refl _ _) nq))
          generalize wr.drewN nq = w6 at HB6 HTs6 ⊢
          go_wp2_with fail
          refine (KS.out _ (HT.out.below HB6.out) (by omega)).mono ?_
          rintro r w7 ⟨hb7, l2, v2, hl2', rfl, hown2⟩
          have HB7 := hide (HB6.out.trans (hb7.mono HB6.out.size))
          have HTs7 := hide (HTs6.out.below hb7)
          have HTn2 := hide (Ts.own hown2)
          have HKL2 : Hid (l2.map kx = l.map kx) := hl2'
          clear hb7 hl2' hown2
          obtain ⟨ao2, cap2, rfl, _⟩ := HTn2.out.parts
          unfold Pl.v
          simp only [plz]
          go_wp2_with fail
          refine (alike_eq _ _ _ l2 l HTn2.out HTs7.out HKL2.out).mono ?_
          rintro r w8 ⟨rfl, hb8⟩
          go_wp2
          go_ret
          exact ⟨by rfl, HB7.out.trans (hb8.mono HB7.out.size)⟩
end Lm
end Go.Proofs.YtgfglefgpgckiaaDoor

namespace Go.Proofs.YtgfglefgpgckiaaDoor
namespace glyphAgainLaw
open Go.ChangeShapes Go.WideShapes Go.ChangeAt Go.RowKit
open Go.ChangeMaps (open_string shut_string)
theorem own : ownKnob Tryd.prog.godebug = none := by kernel_rfl
noncomputable def laidWorld (os : Os) : World :=
  let w0 := World.holding Tryd.prog os ⟨#[], #[], []⟩
  let put (h : Array Obj) (g : Nat) (cs : Array Value) : Array Obj := h.modify g fun
    | .cells _ t frozen => .cells cs t frozen
    | o => o
  let h1 := put w0.heap (Tryd.lays197_ren.g 3) (Lib.firstTab.map fun z => Value.int .u8 z).toArray
  let h2 := put h1 (Tryd.lays197_ren.g 4) ((List.range 16).flatMap fun i => [Value.int .u8 (Lib.accLo i), Value.int .u8 (Lib.accHi i)]).toArray
  { w0 with heap := h2 }
theorem laid_met (os : Os) : laidMet Tryd.prog Rows.glyphAgainRow.laid ((laidWorld os).forCall (fun _ _ => 0) ⟨#[], #[.string ⟨#[]⟩, .int .i64 0, .string ⟨#[]⟩], []⟩).memory :=
  laidMet_of_run' 8 (by kernel_rfl) (by kernel_rfl)
theorem tabs {W : World} (h : laidMet Tryd.prog Rows.glyphAgainRow.laid W) : Lm.Tabs W :=
  utf8Tabs_of_reads (ρ := Tryd.lays197_ren) { Tryd.lays197 with } ⟨by kernel_rfl, by kernel_rfl, by kernel_rfl, by kernel_rfl, by kernel_rfl, by kernel_rfl, by kernel_rfl⟩
    (Lib.laidMet.reads h (show ("unicode/utf8.first", Lib.firstData) ∈ Rows.glyphAgainRow.laid from by
      rw [show Lib.firstData = Rows.laid_unicode_utf8_first from by kernel_rfl]
      exact .tail _ (.head _)))
    (Lib.laidMet.reads h (show ("unicode/utf8.acceptRanges", Lib.acceptData) ∈ Rows.glyphAgainRow.laid from by
      rw [show Lib.acceptData = Rows.laid_unicode_utf8_acceptRanges from by kernel_rfl]
      exact .head _))
theorem reads (os : Os) {H : Type} (enc : TypeId × Value → H) : ∃ places, DataW.whole enc Tryd.prog ((laidWorld os).forCall (fun _ _ => 0) ⟨#[], #[.string ⟨#[]⟩, .int .i64 0, .string ⟨#[]⟩], []⟩).memory Tryd.f6.params.toList Rows.glyphAgainSpec.vars false (#[.string ⟨#[]⟩, .int .i64 0, .string ⟨#[]⟩] : Array Value).toList 8 = some ([.lit (.string []), .lit (.int .i64 0), .lit (.string [])], [], places) :=
  ⟨[], by kernel_rfl⟩
set_option linter.unusedVariables false in
set_option maxRecDepth 100000 in
theorem lifted (os : Os) (started : os.Started) (H : Type) (enc : TypeId × Value → H) (F : Stop.Interp) :
    ReturnsInHanded {} Tryd.checked os 6 .any ((OpenSpec.ofChange Rows.glyphAgainSpec).preRow enc Tryd.prog Tryd.f6 Rows.glyphAgainRow.domain false Rows.glyphAgainRow.laid) (((OpenSpec.ofChange Rows.glyphAgainSpec).at F).post enc Tryd.prog Tryd.f6 false true false false) := by
  obtain ⟨places, hx⟩ := reads os enc
  refine returnsInHanded_of_row (C := Tryd.checked) (s := (OpenSpec.ofChange Rows.glyphAgainSpec)) own started (by kernel_rfl) Tryd.func6
    (witness_row_at (enc := enc) (C := Tryd.checked) false (laidWorld os) #[.string ⟨#[]⟩, .int .i64 0, .string ⟨#[]⟩] rfl (by kernel_rfl) (by kernel_rfl) (by kernel_rfl)
      (OpenSpec.preRow_of_cond 8 hx (by kernel_rfl) (fun k hk => by cases hk) (by kernel_rfl) (laid_met os))) ?_
  intro W base args ds gs before hval0 hW hcnd0 hcond hsz0 hL hj2 hj3
  have hTabs : Lm.Tabs W := tabs hL
  have hval : ∀ (j : Nat) t v, Tryd.f6.params[j]? = some t → args[j]? = some v → Value.okWide Tryd.prog W .any base t v := hval0
  have hW' := hW
  obtain ⟨p, q, hA0, hV, rfl, hfz, hnd⟩ := hW
  have hA : DataW.TrodAll enc Tryd.prog W 0 (fun _ => true) true Tryd.f6.params.toList args.toList ds p := hA0
  have hsz : (DataW.weightsEach Tryd.prog (Tryd.f6.params.toList ++ Rows.glyphAgainSpec.plain.varTypes Tryd.prog) (ds ++ gs)).all (· ≤ reachBytes) = true := hsz0
  rw [Tryd.params6] at hA hval hsz
  obtain ⟨v0, vs0, d0, ds0, p0, q0, hargs, rfl, rfl, h0, r0⟩ := trodAll_cons hA
  obtain ⟨v1, vs1, d1, ds1, p1, q1, rfl, rfl, rfl, h1, r1⟩ := trodAll_cons r0
  obtain ⟨v2, vs2, d2, ds2, p2, q2, rfl, rfl, rfl, h2, r2⟩ := trodAll_cons r1
  obtain ⟨rfl, rfl, rfl⟩ := trodAll_nil r2
  obtain rfl : args = #[v0, v1, v2] := by cases args; simp_all
  obtain ⟨rfl, rfl⟩ := trodVars_none hV
  obtain ⟨a0, rfl, rfl, rfl, w0⟩ := open_string Tryd.underlying9 (hval 0 9 v0 rfl rfl) h0
  obtain ⟨a1, rfl, rfl, rfl, w1⟩ := open_int Tryd.underlying3 (hval 1 3 v1 rfl rfl) h1
  obtain ⟨a2, rfl, rfl, rfl, w2⟩ := open_string Tryd.underlying9 (hval 2 9 v2 rfl rfl) h2
  clear hA0 hval0
  refine (Lm.glyphagain_any W hTabs a0 a1 a2 (by have h9 := sized_string hsz (j := 2) (t := 9) rfl rfl; simpa using h9)).mono fun e W' ⟨he, bel⟩ => ?_
  subst he
  exact ⟨_, rfl, _, _, _, [], _, [], hW', trodAll_mk1 (shut_bool Tryd.underlying4 _), (trodAll_cons_mk (shut_string Tryd.underlying9 w0) (trodAll_cons_mk (shut_int Tryd.underlying3 w1) (trodAll_cons_mk (shut_string Tryd.underlying9 w2) trodAll_mk0))), rfl, bel.frame _, fun h => by cases h⟩
theorem said : Rows.GlyphAgainSaid :=
  OpenClaim.holds_of_cond 6 Tryd.f6 rfl rfl rfl rfl rfl rfl rfl ⟨rfl, rfl, rfl, rfl, rfl⟩ rfl rfl rfl rfl rfl (by kernel_rfl) Tryd.func6 (by kernel_rfl)
    (of_decide_eq_true (by kernel_rfl)) (by unfold Func.isWrapper; first | (rw [if_pos (by decide +kernel)]; kernel_rfl) | (rw [if_neg (by decide +kernel)]; exact ⟨rfl, rfl⟩))
    (fun os started H enc _ F => by rw [OpenClaim.pre_eq_preRow]; exact lifted os started H enc F)
theorem plain (f : FuncId) (fn : Func) (hf : Tryd.pinned.checked.prog.funcNamed "rafter/rafterlaw04.GlyphAgain" = some f) (hfn : Tryd.pinned.checked.prog.funcs[f]? = some fn) :
    false = Tryd.pinned.checked.prog.looks [] ∧ ∀ (j : Nat) t, fn.params[j]? = some t → Tryd.pinned.checked.prog.wantsStandIn t = false := by
  obtain rfl : f = 6 := Option.some.inj ((show Tryd.prog.funcNamed "rafter/rafterlaw04.GlyphAgain" = some 6 by kernel_rfl).symm.trans hf) |>.symm
  obtain rfl : fn = Tryd.f6 := (Option.some.inj (Tryd.func6.symm.trans hfn)).symm
  refine ⟨by kernel_rfl, fun j t ht => ?_⟩
  rw [Tryd.params6] at ht
  have hm := Array.mem_of_getElem? ht
  simp at hm
  rcases hm with rfl | rfl | rfl
  · exact (show Tryd.prog.wantsStandIn 9 = false by kernel_rfl)
  · exact (show Tryd.prog.wantsStandIn 3 = false by kernel_rfl)
  · exact (show Tryd.prog.wantsStandIn 9 = false by kernel_rfl)
theorem card : Rows.GlyphAgainCardSaid :=
  Claim7.holds_tied_plain_at .later [] _ _ _ _ said (fun _ h => by cases h) (by kernel_rfl) (fun _ h => by cases h) glyphAgain_row_tie rfl ⟨rfl, rfl⟩ (by kernel_rfl) rfl plain (by kernel_rfl)
end glyphAgainLaw
theorem glyphAgain_card : Rows.GlyphAgainCardSaid := glyphAgainLaw.card
#print axioms glyphAgain_card
end Go.Proofs.YtgfglefgpgckiaaDoor

