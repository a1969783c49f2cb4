/-
  The given statement on GlyphCodes, for every input: the call answers true, and each argument reads behind it as it read before; and its card. Its condition: the two tables of unicode/utf8 are laid as the row lists them; the card ties that to the program's text. Beside it: What the library's strings.Clone does, at this program. The scanner goes past a name. The scanner goes past a number. The scanner goes past a sign. Tokens: what a text's glyphs make. No program is named here. Tokens of codes: what a text's codes make, without places. No program is named here. What the library's utf8.DecodeRuneInString does, at this program. The glyphs of a text up to its first byte that is part of none: the walk. The scanner goes past a token. The scanner goes past a token: the walk. Tokens in memory, and the scanner on its way. What Scan answers, of any text: the walk. What Glyphs answers of any text, the program's and the document's. The bytes of a code point, as the law writes them. The bytes of a code point that stands in a text are those that stand there. What every program answers that is one: Scan of one small text. Any text's codes, and what Scan answers by them. GlyphSigns answers true, whatever text it is handed: the walk. What the library's strings.Builder does, at this program. GlyphAgain answers true, whatever it is handed: the walk. GlyphReads answers true, whatever text it is handed: the walk. GlyphBack answers true, whatever text it is handed: the walk. The bytes of any code, as the law writes them. GlyphCodes answers true, whatever it is handed: the walk.
-/
import Derived.Shelf.Lay
import Derived.Shelf.Strconv.Clone
import Derived.Laws.Concat
import Derived.Shelf.Unicode.DecodeAny
import Derived.Lib.LaidU8
import Derived.Test.YtgfglefgpgckiaaDoorProg
import Derived.Lib.OthersKept
import Derived.Laws.RangeAny
import Derived.Deep.RegionLaw
import Derived.Deep.AppendLies
import Derived.Handy
import Derived.Laws.IdiomStrings
import Derived.SizedLaws
import Derived.Shelf.Strings.BuilderK
import Derived.Deep.DeepCutAuto
import Derived.Test.YtgfglefgpgckiaaDoorRows
import Derived.Test.YtgfglefgpgckiaaDoorCards
import Derived.Test.YtgfglefgpgckiaaDoorTie
import Derived.ProofKit
import Derived.OpenShut
import Derived.ShutString
import Derived.ChangeOld
import Derived.Lib.SmallJoins
import Derived.Lib.LaidIn
import Derived.Deep.DeepHandedRow
import Derived.Test.YtgfglefgpgckiaaDoorGLdLawZ0
namespace Go.Proofs
open Go.Shelf
shelf_lay LaysM.n316 Nm 316 at Tryd as Tryd.lays316
namespace YtgfglefgpgckiaaDoor
namespace Lm
open Go Go.RowKit
theorem clone_lite (w : World) (s : ByteArray) (h : s.size ≤ 281474976710656) :
    Calls Tryd.prog 73 #[.string s] w fun e w' => e = .returned (.string s) ∧ Below w.heap.size w w' := Any.stringslite_Clone Tryd.lays316 s w h
theorem sclone_any (w : World) (s : ByteArray) (h : s.size ≤ 281474976710656) :
    Calls Tryd.prog 66 #[.string s] w fun e w' => e = .returned (.string s) ∧ Below w.heap.size w w' := by
  go_enter Tryd.func66, Tryd.ntmps66
  go_wp2_with fail
  refine (clone_lite _ _ h).mono ?_
  rintro e w' ⟨rfl, hb⟩
  go_wp2
  go_ret
  exact ⟨rfl, hb⟩
end Lm
end YtgfglefgpgckiaaDoor
end Go.Proofs

namespace Go.Proofs.YtgfglefgpgckiaaDoor
namespace Lm
open Go Go.RowKit
theorem nums_new (w : World) (zs : List Int) (hl : zs.length ≤ 100) (e : TypeId) : Nums (w.alloc (.cells (zs.map (Value.int .i64)).toArray e)) (.slice (some ⟨w.heap.size, 0, none⟩) zs.length zs.length) zs := by
  refine ⟨_, _, rfl, Nat.le_refl _, by omega, by simp, .inr ⟨w.heap.size, 0, rfl, by simp [World.size_alloc], fun j u hu => ?_⟩⟩
  rw [cell_of_row _ w.heap.size _ _ _ _ (heap_alloc_new w _), Nat.zero_add]
  simpa using hu
def tok0 : Value := .agg #[.int .i64 0, .string ⟨#[]⟩, .int .i64 0, .int .i64 0, .int .i64 0, .int .i64 0]
def Tk0B (w : World) (f : Nat) : Prop := w.heap[f]? = some (.cells #[.int .i64 0, .string ⟨#[]⟩, .int .i64 0, .int .i64 0, .int .i64 0, .int .i64 0] 35 (0, 0))
theorem Tk0B.tq {w w' : World} {f q : Nat} (h : Tk0B w f) (ht : Tq w w' q) (hn : f ≠ q) : Tk0B w' f := (ht.other f (lt_of_heap h) hn).trans h
theorem Tk0B.below {w w' : World} {f : Nat} (h : Tk0B w f) (hb : Below w.heap.size w w') : Tk0B w' f := (hb.block f (lt_of_heap h)).trans h
structure Tk0C (w : World) (f : Nat) : Prop where
  hf : f < w.heap.size
  t0 : w.cell? ⟨f, 0, none⟩ = some (.int .i64 0)
  t1 : w.cell? ⟨f, 1, none⟩ = some (.string ⟨#[]⟩)
  t2 : w.cell? ⟨f, 2, none⟩ = some (.int .i64 0)
  t3 : w.cell? ⟨f, 3, none⟩ = some (.int .i64 0)
  t4 : w.cell? ⟨f, 4, none⟩ = some (.int .i64 0)
  t5 : w.cell? ⟨f, 5, none⟩ = some (.int .i64 0)
  f0 : w.frozen? ⟨f, 0, none⟩ = false
  f1 : w.frozen? ⟨f, 1, none⟩ = false
  f2 : w.frozen? ⟨f, 2, none⟩ = false
  f3 : w.frozen? ⟨f, 3, none⟩ = false
  f4 : w.frozen? ⟨f, 4, none⟩ = false
  f5 : w.frozen? ⟨f, 5, none⟩ = false
theorem Tk0B.cells {w : World} {f : Nat} (h : Tk0B w f) : Tk0C w f := by
  exact ⟨lt_of_heap h, by rw [cell_of_row w f 0 _ _ _ h]; rfl, by rw [cell_of_row w f 1 _ _ _ h]; rfl, by rw [cell_of_row w f 2 _ _ _ h]; rfl, by rw [cell_of_row w f 3 _ _ _ h]; rfl, by rw [cell_of_row w f 4 _ _ _ h]; rfl, by rw [cell_of_row w f 5 _ _ _ h]; rfl, frozen_of_row w f 0 _ _ h, frozen_of_row w f 1 _ _ h, frozen_of_row w f 2 _ _ h, frozen_of_row w f 3 _ _ h, frozen_of_row w f 4 _ _ h, frozen_of_row w f 5 _ _ h⟩
set_option maxRecDepth 20000 in
set_option maxHeartbeats 1000000 in
theorem name_any (w : World) (q : Nat) (s : ByteArray) (v : Value) (gs : List Gl) (i : Nat) (e : Pl) (h : Scn w q s v gs i e) (hn : gs.length ≤ 100000) (hQ : Snd s pl0 gs e) (hs : s.size ≤ 100000) :
    Calls Tryd.prog 50 #[.pointer (some ⟨q, 0, none⟩)] w fun r w' => ∃ j, i ≤ j ∧ gs.drop j = (gs.drop i).dropWhile (inC [2, 3, 4]) ∧ Scn w' q s v gs j e ∧ Tq w w' q ∧ ((16 < j - i ∧ r = .returned (.tuple #[tok0, .int .i64 42])) ∨ (j - i ≤ 16 ∧ r = .returned (.tuple #[.agg #[.int .i64 1, .string (s.extract (plf (gs.drop i) e).b (plf (gs.drop j) e).b), .int .i64 0, .int .i64 0, .int .i64 0, .int .i64 0], .int .i64 0]))) := by
  have H := hide h
  have hq := lt_of_heap h.blk
  clear h
  unfold tok0
  have hb0 : Below w.heap.size w ((w.alloc (.cells #[.int .i64 0, .string ⟨#[]⟩, .int .i64 0, .int .i64 0, .int .i64 0, .int .i64 0] 35)).alloc (.cells #[.int .i64 2, .int .i64 3, .int .i64 4] 3)) := below_two _ _ _
  have ht0 : Tk0B ((w.alloc (.cells #[.int .i64 0, .string ⟨#[]⟩, .int .i64 0, .int .i64 0, .int .i64 0, .int .i64 0] 35)).alloc (.cells #[.int .i64 2, .int .i64 3, .int .i64 4] 3)) w.heap.size := Tk0B.below (heap_alloc_new w _) ((Below.refl _ _).alloc (Nat.le_refl _) _)
  have hN := nums_new (w.alloc (.cells #[.int .i64 0, .string ⟨#[]⟩, .int .i64 0, .int .i64 0, .int .i64 0, .int .i64 0] 35)) [2, 3, 4] (by simp) 3
  simp only [World.size_alloc, List.map, List.length] at hN
  go_enter Tryd.func50, Tryd.ntmps50
  go_wp2_with fail
  refine (run_any _ q s v gs i e (H.out.below hb0) hn _ _ _ [2, 3, 4] hN (by rintro b off n c hv; simp only [Value.slice.injEq, Option.some.injEq, Addr.mk.injEq] at hv; omega) hQ hs).mono ?_
  rintro r w2 ⟨j, hij, hdj, rfl, hS, hT⟩
  have HS := hide hS
  have HT := hide ((Tq.of_below hb0).trans hT)
  have HT0 := hide (ht0.tq hT (by omega))
  clear hS hT hb0 ht0 hN
  have HDJ := hide hdj
  clear hdj
  generalize hf : w.heap.size = f at *
  replace hf : w.heap.size ≤ f := by omega
  have hqf : q ≠ f := by omega
  clear hq
  by_cases hlong : 16 < j - i
  · obtain ⟨hfl, t0, t1, t2, t3, t4, t5, f0, f1, f2, f3, f4, f5⟩ := HT0.out.cells
    have hl' : (16 : Int) < ((j - i : Nat) : Int) := by omega
    go_wp2
    refine bodyPost_ret (v := _) (by simp [results, Tryd.results50, go_sem, t0, t1, t2, t3, t4, t5]; try rfl) rfl ⟨j, hij, HDJ.out, ?_, ?_, .inl ⟨hlong, rfl⟩⟩
    · exact H.out.of_tq (HT.out.setNew hf 0 _ |>.setNew hf 1 _ |>.setNew hf 2 _ |>.setNew hf 3 _ |>.setNew hf 4 _ |>.setNew hf 5 _) ((six_other _ _ _ hqf _ _ _ _ _ _).trans HS.out.blk) HS.out.le
    · exact HT.out.setNew hf 0 _ |>.setNew hf 1 _ |>.setNew hf 2 _ |>.setNew hf 3 _ |>.setNew hf 4 _ |>.setNew hf 5 _
  · have hl' : decide ((16 : Int) < ((j - i : Nat) : Int)) = false := by simp; omega
    go_wp2_with fail
    refine (sclone_any _ _ (by simp; omega)).mono ?_
    rintro r w3 ⟨rfl, hb3⟩
    replace HT0 := hide (HT0.out.below hb3)
    replace HT := hide (HT.out.trans (.of_below hb3))
    replace HS := hide (HS.out.below hb3)
    clear hb3
    obtain ⟨hfl, t0, t1, t2, t3, t4, t5, f0, f1, f2, f3, f4, f5⟩ := HT0.out.cells
    go_wp2
    refine bodyPost_ret (v := _) (by simp [results, Tryd.results50, go_sem, t0, t1, t2, t3, t4, t5]; try rfl) rfl ⟨j, hij, HDJ.out, ?_, ?_, .inr ⟨by omega, rfl⟩⟩
    · exact H.out.of_tq (HT.out.setNew hf 0 _ |>.setNew hf 1 _ |>.setNew hf 2 _ |>.setNew hf 3 _ |>.setNew hf 4 _ |>.setNew hf 5 _) ((six_other _ _ _ hqf _ _ _ _ _ _).trans HS.out.blk) HS.out.le
    · exact HT.out.setNew hf 0 _ |>.setNew hf 1 _ |>.setNew hf 2 _ |>.setNew hf 3 _ |>.setNew hf 4 _ |>.setNew hf 5 _
end Lm
end Go.Proofs.YtgfglefgpgckiaaDoor

namespace Go.Proofs.YtgfglefgpgckiaaDoor
namespace Lm
open Go Go.RowKit
open Dm (Err Fine)
set_option maxRecDepth 20000 in
set_option maxHeartbeats 1000000 in
theorem number_any (w : World) (q : Nat) (s : ByteArray) (v : Value) (gs : List Gl) (i : Nat) (e : Pl) (h : Scn w q s v gs i e) (hn : gs.length ≤ 100000) (hQ : Snd s pl0 gs e) (hs : s.size ≤ 4096) (hne : (plf (gs.drop i) e).b < (plf ((gs.drop i).dropWhile (inC [3])) e).b) :
    Calls Tryd.prog 51 #[.pointer (some ⟨q, 0, none⟩)] w fun r w' => ∃ j, i ≤ j ∧ gs.drop j = (gs.drop i).dropWhile (inC [3]) ∧ Scn w' q s v gs j e ∧ Tq w w' q ∧ ∃ n ds, IsLen (dval (bytesOf (s.extract (plf (gs.drop i) e).b (plf (gs.drop j) e).b))) n ∧ IsDec ds (dval (bytesOf (s.extract (plf (gs.drop i) e).b (plf (gs.drop j) e).b))) ∧ ((32 < n ∧ r = .returned (.tuple #[tok0, .int .i64 2])) ∨ (n ≤ 32 ∧ r = .returned (.tuple #[.agg #[.int .i64 2, .string (strOfNums ds), .int .i64 0, .int .i64 0, .int .i64 0, .int .i64 0], .int .i64 0]))) := by
  have H := hide h
  have hq := lt_of_heap h.blk
  have hD := hQ.drop pl0_ok (Nat.zero_le _) i h.le
  have hG := hD.1.digits hD.2.1 hD.2.2.2.1
  have HF : Hid (Fine (s.extract (plf (gs.drop i) e).b (plf ((gs.drop i).dropWhile (inC [3])) e).b)) := by
    refine ⟨?_, ?_, hG.1⟩
    · rw [ByteArray.size_extract]; omega
    · rw [ByteArray.size_extract]; omega
  clear h hD hG hne
  unfold tok0
  have hb0 : Below w.heap.size w ((w.alloc (.cells #[.int .i64 0, .string ⟨#[]⟩, .int .i64 0, .int .i64 0, .int .i64 0, .int .i64 0] 35)).alloc (.cells #[.int .i64 3] 3)) := below_two _ _ _
  have ht0 : Tk0B ((w.alloc (.cells #[.int .i64 0, .string ⟨#[]⟩, .int .i64 0, .int .i64 0, .int .i64 0, .int .i64 0] 35)).alloc (.cells #[.int .i64 3] 3)) w.heap.size := Tk0B.below (heap_alloc_new w _) ((Below.refl _ _).alloc (Nat.le_refl _) _)
  have hN := nums_new (w.alloc (.cells #[.int .i64 0, .string ⟨#[]⟩, .int .i64 0, .int .i64 0, .int .i64 0, .int .i64 0] 35)) [3] (by simp) 3
  simp only [World.size_alloc, List.map, List.length] at hN
  go_enter Tryd.func51, Tryd.ntmps51
  go_wp2_with fail
  refine (run_any _ q s v gs i e (H.out.below hb0) hn _ _ _ [3] hN (by rintro b off n c hv; simp only [Value.slice.injEq, Option.some.injEq, Addr.mk.injEq] at hv; omega) hQ (by omega)).mono ?_
  rintro r w2 ⟨j, hij, hdj, rfl, hS, hT⟩
  have HS := hide hS
  have HT := hide ((Tq.of_below hb0).trans hT)
  have HT0 := hide (ht0.tq hT (by omega))
  clear hS hT hb0 ht0 hN
  rw [← hdj] at HF
  have HDJ := hide hdj
  clear hdj
  generalize htx : s.extract (plf (gs.drop i) e).b (plf (gs.drop j) e).b = t at HF ⊢
  have HTX := hide htx
  clear htx
  generalize hf : w.heap.size = f at *
  replace hf : w.heap.size ≤ f := by omega
  have hqf : q ≠ f := by omega
  clear hq
  go_wp2_with fail
  refine (parse_e _ _).mono ?_
  rintro r w3 ⟨hr, hb3⟩
  replace HT0 := hide (HT0.out.below hb3)
  replace HT := hide (HT.out.trans (.of_below hb3))
  replace HS := hide (HS.out.below hb3)
  clear hb3
  rcases hr with ⟨k, hk, rfl⟩ | ⟨_, u, rfl, rs, hO, hC, hV⟩
  · exfalso
    obtain ⟨x1, x2, x3⟩ := HF.out
    rcases hk with hk | hk
    · omega
    · exact hk.2.2 ⟨x1, x3⟩
  obtain ⟨ao, cap, rfl, c1, c2, c3, c4⟩ := hO.sl
  have HO := hide hO
  have HC := hide (And.intro hC hV)
  have hlen : rs.length ≤ 1000000 := by
    have h1 := dval_bounds HF.out.2.2
    rw [bytesOf_length, ← hV] at h1
    have h2 := p10_mono (m := t.size) (n := 5120) HF.out.2.1
    have h3 := gp10_le_pw 5120
    have h4 := canon_len hC (m := 5120) (by omega)
    omega
  clear hO hC hV c4
  by_cases hbig : 32 < rs.length
  · obtain ⟨DS, hds⟩ := gdec_of HF.out.2.2
    have HDS := hide hds
    clear hds
    obtain ⟨hfl, t0, t1, t2, t3, t4, t5, f0, f1, f2, f3, f4, f5⟩ := HT0.out.cells
    have hl' : (32 : Int) < (rs.length : Int) := by omega
    go_wp2
    refine bodyPost_ret (v := _) (by simp [results, Tryd.results51, go_sem, t0, t1, t2, t3, t4, t5]; try rfl) rfl ⟨j, hij, HDJ.out, ?_, ?_, _, DS, by rw [HTX.out]; exact ⟨_, HC.out.1, HC.out.2, rfl⟩, by rw [HTX.out]; exact HDS.out, .inl ⟨hbig, rfl⟩⟩
    · exact H.out.of_tq (HT.out.setNew hf 0 _ |>.setNew hf 1 _ |>.setNew hf 2 _ |>.setNew hf 3 _ |>.setNew hf 4 _ |>.setNew hf 5 _) ((six_other _ _ _ hqf _ _ _ _ _ _).trans HS.out.blk) HS.out.le
    · exact HT.out.setNew hf 0 _ |>.setNew hf 1 _ |>.setNew hf 2 _ |>.setNew hf 3 _ |>.setNew hf 4 _ |>.setNew hf 5 _
  · have hl' : decide ((32 : Int) < (rs.length : Int)) = false := by simp; omega
    go_wp2_with fail
    refine (text_any _ _ _ _ _ HO.out.sl hlen).mono ?_
    rintro r w4 ⟨DS, rfl, hds, hb4⟩
    rw [HC.out.2] at hds
    have HDS := hide hds
    replace HT0 := hide (HT0.out.below hb4)
    replace HT := hide (HT.out.trans (.of_below hb4))
    replace HS := hide (HS.out.below hb4)
    clear hb4 hds
    obtain ⟨hfl, t0, t1, t2, t3, t4, t5, f0, f1, f2, f3, f4, f5⟩ := HT0.out.cells
    go_wp2
    refine bodyPost_ret (v := _) (by simp [results, Tryd.results51, go_sem, t0, t1, t2, t3, t4, t5]; try rfl) rfl ⟨j, hij, HDJ.out, ?_, ?_, _, DS, by rw [HTX.out]; exact ⟨_, HC.out.1, HC.out.2, rfl⟩, by rw [HTX.out]; exact HDS.out, .inr ⟨by omega, rfl⟩⟩
    · exact H.out.of_tq (HT.out.setNew hf 0 _ |>.setNew hf 1 _ |>.setNew hf 2 _ |>.setNew hf 3 _ |>.setNew hf 4 _ |>.setNew hf 5 _) ((six_other _ _ _ hqf _ _ _ _ _ _).trans HS.out.blk) HS.out.le
    · exact HT.out.setNew hf 0 _ |>.setNew hf 1 _ |>.setNew hf 2 _ |>.setNew hf 3 _ |>.setNew hf 4 _ |>.setNew hf 5 _
end Lm
end Go.Proofs.YtgfglefgpgckiaaDoor

namespace Go.Proofs.YtgfglefgpgckiaaDoor
namespace Lm
open Go Go.RowKit
theorem encode_one {c : Int} (h : 0 ≤ c ∧ c < 128) : Utf8.encode c = strOfNums [c] := by
  obtain ⟨n, rfl⟩ : ∃ n : Nat, c = n := ⟨c.toNat, by omega⟩
  unfold Utf8.encode
  have hv : Utf8.valid (n : Int) = true := by simp [Utf8.valid]; omega
  simp only [hv, if_true]
  rw [if_pos (by omega)]
  rfl
theorem Tq.six {w w' : World} {q f : Nat} (h : Tq w w' q) (hf : w.heap.size ≤ f) (u0 u1 u2 u3 u4 u5 : Value) : Tq w ((((((w'.setCell ⟨f, 0, none⟩ u0).setCell ⟨f, 1, none⟩ u1).setCell ⟨f, 2, none⟩ u2).setCell ⟨f, 3, none⟩ u3).setCell ⟨f, 4, none⟩ u4).setCell ⟨f, 5, none⟩ u5) q :=
  h.setNew hf 0 _ |>.setNew hf 1 _ |>.setNew hf 2 _ |>.setNew hf 3 _ |>.setNew hf 4 _ |>.setNew hf 5 _
set_option maxRecDepth 20000 in
set_option maxHeartbeats 1000000 in
theorem sign_one (w : World) (q : Nat) (s : ByteArray) (v : Value) (gs : List Gl) (i : Nat) (e : Pl) (h : Scn w q s v gs i e) (hn : gs.length ≤ 100000) (g : Gl) (hg : gs[i]? = some g) (c : Int) (hc : gfold g.code = c) (h0 : 0 ≤ c ∧ c < 128) (h1 : c ≠ 58) (h2 : c ≠ 33) :
    Calls Tryd.prog 52 #[.pointer (some ⟨q, 0, none⟩)] w fun r w' => Scn w' q s v gs (i + 1) e ∧ Tq w w' q ∧ r = .returned (.tuple #[.agg #[.int .i64 3, .string (strOfNums [c]), .int .i64 0, .int .i64 0, .int .i64 0, .int .i64 0], .int .i64 0]) := by
  have H := hide h
  have hi : i < gs.length := (List.getElem?_eq_some_iff.1 hg).1
  have hil : (i : Int) < 100000 := by omega
  obtain ⟨ao, cap, rfl⟩ := h.gls.isSlice
  obtain ⟨b, off, rfl, hG⟩ := h.gls.glyph hg
  obtain ⟨hq, k0, k1, k2, k3, k4, k5, k6⟩ := h.cells
  obtain ⟨hb, g0, g1, g2, g3, g4, g5⟩ := hG
  have hfr := h.free 2
  have hi' : (i : Int) < (gs.length : Int) := by omega
  have KF : ∀ w, Calls Tryd.prog 58 #[.int .i64 g.code] w fun e w' => e = .returned (.int .i64 c) ∧ w' = w := fun w => by rw [← hc]; exact gfold_any w _
  have n8788 : (c == 8788) = false := beq_eq_false_iff_ne.2 (by omega)
  have n8800 : (c == 8800) = false := beq_eq_false_iff_ne.2 (by omega)
  have n58 : (c == 58) = false := beq_eq_false_iff_ne.2 (by omega)
  have n33 : (c == 33) = false := beq_eq_false_iff_ne.2 (by omega)
  clear h hg hc k0 k3 k4 k5 k6 g1 g2 g3 g4 g5
  go_enter Tryd.func52, Tryd.ntmps52
  go_wp2_with fail
  go_quiet ((go_at_call 58; exact Calls.quiet_of_same (KF _)))
  go_wp2
  refine bodyPost_ret (v := _) (by simp [results, Tryd.results52, go_sem]; try rfl) rfl ⟨?_, ?_, ?_⟩
  · refine H.out.of_tq (Tq.six ((Tq.of_below (by (repeat' (first | (with_reducible exact Below.refl _ _) | (with_reducible assumption) | (with_reducible refine gdrewN ?_ _) | (with_reducible refine Below.alloc ?_ ?_ _) | (with_reducible refine Below.drew ?_) | (with_reducible refine Below.setCell ?_ ?_ _) | go_size)))).set 2 _) (Nat.le_refl _) _ _ _ _ _ _) ((six_other _ _ _ (by omega) _ _ _ _ _ _).trans ?_) (by omega)
    rw [heap_setCell_same _ q 2 _ _ _ ((Below.block (B := w.heap.size) (by (repeat' (first | (with_reducible exact Below.refl _ _) | (with_reducible assumption) | (with_reducible refine gdrewN ?_ _) | (with_reducible refine Below.alloc ?_ ?_ _) | (with_reducible refine Below.drew ?_) | (with_reducible refine Below.setCell ?_ ?_ _) | go_size))) q hq).trans H.out.blk)]
    simp
  · exact Tq.six ((Tq.of_below (by (repeat' (first | (with_reducible exact Below.refl _ _) | (with_reducible assumption) | (with_reducible refine gdrewN ?_ _) | (with_reducible refine Below.alloc ?_ ?_ _) | (with_reducible refine Below.drew ?_) | (with_reducible refine Below.setCell ?_ ?_ _) | go_size)))).set 2 _) (Nat.le_refl _) _ _ _ _ _ _
  · simp [encode_one h0]
set_option maxRecDepth 20000 in
set_option maxHeartbeats 1000000 in
theorem sign_becomes (w : World) (q : Nat) (s : ByteArray) (v : Value) (gs : List Gl) (i : Nat) (e : Pl) (h : Scn w q s v gs i e) (hn : gs.length ≤ 100000) (g : Gl) (hg : gs[i]? = some g) (c : Int) (hc : gfold g.code = c) (h0 : c = 8788) :
    Calls Tryd.prog 52 #[.pointer (some ⟨q, 0, none⟩)] w fun r w' => Scn w' q s v gs (i + 1) e ∧ Tq w w' q ∧ r = .returned (.tuple #[.agg #[.int .i64 3, .string (strOfNums [58, 61]), .int .i64 0, .int .i64 0, .int .i64 0, .int .i64 0], .int .i64 0]) := by
  have H := hide h
  have hi : i < gs.length := (List.getElem?_eq_some_iff.1 hg).1
  have hil : (i : Int) < 100000 := by omega
  obtain ⟨ao, cap, rfl⟩ := h.gls.isSlice
  obtain ⟨b, off, rfl, hG⟩ := h.gls.glyph hg
  obtain ⟨hq, k0, k1, k2, k3, k4, k5, k6⟩ := h.cells
  obtain ⟨hb, g0, g1, g2, g3, g4, g5⟩ := hG
  have hfr := h.free 2
  have hi' : (i : Int) < (gs.length : Int) := by omega
  have KF : ∀ w, Calls Tryd.prog 58 #[.int .i64 g.code] w fun e w' => e = .returned (.int .i64 c) ∧ w' = w := fun w => by rw [← hc]; exact gfold_any w _
  subst h0
  clear h hg hc k0 k3 k4 k5 k6 g1 g2 g3 g4 g5
  go_enter Tryd.func52, Tryd.ntmps52
  go_wp2_with fail
  go_quiet ((go_at_call 58; exact Calls.quiet_of_same (KF _)))
  go_wp2
  refine bodyPost_ret (v := _) (by simp [results, Tryd.results52, go_sem]; try rfl) rfl ⟨?_, ?_, ?_⟩
  · refine H.out.of_tq (Tq.six ((Tq.of_below (by (repeat' (first | (with_reducible exact Below.refl _ _) | (with_reducible assumption) | (with_reducible refine gdrewN ?_ _) | (with_reducible refine Below.alloc ?_ ?_ _) | (with_reducible refine Below.drew ?_) | (with_reducible refine Below.setCell ?_ ?_ _) | go_size)))).set 2 _) (Nat.le_refl _) _ _ _ _ _ _) ((six_other _ _ _ (by omega) _ _ _ _ _ _).trans ?_) (by omega)
    rw [heap_setCell_same _ q 2 _ _ _ ((Below.block (B := w.heap.size) (by (repeat' (first | (with_reducible exact Below.refl _ _) | (with_reducible assumption) | (with_reducible refine gdrewN ?_ _) | (with_reducible refine Below.alloc ?_ ?_ _) | (with_reducible refine Below.drew ?_) | (with_reducible refine Below.setCell ?_ ?_ _) | go_size))) q hq).trans H.out.blk)]
    simp
  · exact Tq.six ((Tq.of_below (by (repeat' (first | (with_reducible exact Below.refl _ _) | (with_reducible assumption) | (with_reducible refine gdrewN ?_ _) | (with_reducible refine Below.alloc ?_ ?_ _) | (with_reducible refine Below.drew ?_) | (with_reducible refine Below.setCell ?_ ?_ _) | go_size)))).set 2 _) (Nat.le_refl _) _ _ _ _ _ _
  · rfl
set_option maxRecDepth 20000 in
set_option maxHeartbeats 1000000 in
theorem sign_unlike (w : World) (q : Nat) (s : ByteArray) (v : Value) (gs : List Gl) (i : Nat) (e : Pl) (h : Scn w q s v gs i e) (hn : gs.length ≤ 100000) (g : Gl) (hg : gs[i]? = some g) (c : Int) (hc : gfold g.code = c) (h0 : c = 8800) :
    Calls Tryd.prog 52 #[.pointer (some ⟨q, 0, none⟩)] w fun r w' => Scn w' q s v gs (i + 1) e ∧ Tq w w' q ∧ r = .returned (.tuple #[.agg #[.int .i64 3, .string (strOfNums [33, 61]), .int .i64 0, .int .i64 0, .int .i64 0, .int .i64 0], .int .i64 0]) := by
  have H := hide h
  have hi : i < gs.length := (List.getElem?_eq_some_iff.1 hg).1
  have hil : (i : Int) < 100000 := by omega
  obtain ⟨ao, cap, rfl⟩ := h.gls.isSlice
  obtain ⟨b, off, rfl, hG⟩ := h.gls.glyph hg
  obtain ⟨hq, k0, k1, k2, k3, k4, k5, k6⟩ := h.cells
  obtain ⟨hb, g0, g1, g2, g3, g4, g5⟩ := hG
  have hfr := h.free 2
  have hi' : (i : Int) < (gs.length : Int) := by omega
  have KF : ∀ w, Calls Tryd.prog 58 #[.int .i64 g.code] w fun e w' => e = .returned (.int .i64 c) ∧ w' = w := fun w => by rw [← hc]; exact gfold_any w _
  subst h0
  clear h hg hc k0 k3 k4 k5 k6 g1 g2 g3 g4 g5
  go_enter Tryd.func52, Tryd.ntmps52
  go_wp2_with fail
  go_quiet ((go_at_call 58; exact Calls.quiet_of_same (KF _)))
  go_wp2
  refine bodyPost_ret (v := _) (by simp [results, Tryd.results52, go_sem]; try rfl) rfl ⟨?_, ?_, ?_⟩
  · refine H.out.of_tq (Tq.six ((Tq.of_below (by (repeat' (first | (with_reducible exact Below.refl _ _) | (with_reducible assumption) | (with_reducible refine gdrewN ?_ _) | (with_reducible refine Below.alloc ?_ ?_ _) | (with_reducible refine Below.drew ?_) | (with_reducible refine Below.setCell ?_ ?_ _) | go_size)))).set 2 _) (Nat.le_refl _) _ _ _ _ _ _) ((six_other _ _ _ (by omega) _ _ _ _ _ _).trans ?_) (by omega)
    rw [heap_setCell_same _ q 2 _ _ _ ((Below.block (B := w.heap.size) (by (repeat' (first | (with_reducible exact Below.refl _ _) | (with_reducible assumption) | (with_reducible refine gdrewN ?_ _) | (with_reducible refine Below.alloc ?_ ?_ _) | (with_reducible refine Below.drew ?_) | (with_reducible refine Below.setCell ?_ ?_ _) | go_size))) q hq).trans H.out.blk)]
    simp
  · exact Tq.six ((Tq.of_below (by (repeat' (first | (with_reducible exact Below.refl _ _) | (with_reducible assumption) | (with_reducible refine gdrewN ?_ _) | (with_reducible refine Below.alloc ?_ ?_ _) | (with_reducible refine Below.drew ?_) | (with_reducible refine Below.setCell ?_ ?_ _) | go_size)))).set 2 _) (Nat.le_refl _) _ _ _ _ _ _
  · rfl
set_option maxRecDepth 20000 in
set_option maxHeartbeats 1000000 in
theorem sign_colon (w : World) (q : Nat) (s : ByteArray) (v : Value) (gs : List Gl) (i : Nat) (e : Pl) (h : Scn w q s v gs i e) (hn : gs.length ≤ 100000) (g : Gl) (hg : gs[i]? = some g) (c : Int) (hc : gfold g.code = c) (h0 : c = 58) (gn : Gl) (hg2 : gs[i + 1]? = some gn) (he2 : gn.code = 61) :
    Calls Tryd.prog 52 #[.pointer (some ⟨q, 0, none⟩)] w fun r w' => Scn w' q s v gs (i + 2) e ∧ Tq w w' q ∧ r = .returned (.tuple #[.agg #[.int .i64 3, .string (strOfNums [58, 61]), .int .i64 0, .int .i64 0, .int .i64 0, .int .i64 0], .int .i64 0]) := by
  have H := hide h
  have hi : i < gs.length := (List.getElem?_eq_some_iff.1 hg).1
  have hil : (i : Int) < 100000 := by omega
  obtain ⟨ao, cap, rfl⟩ := h.gls.isSlice
  obtain ⟨b, off, rfl, hG⟩ := h.gls.glyph hg
  obtain ⟨hq, k0, k1, k2, k3, k4, k5, k6⟩ := h.cells
  obtain ⟨hb, g0, g1, g2, g3, g4, g5⟩ := hG
  have hfr := h.free 2
  have hi' : (i : Int) < (gs.length : Int) := by omega
  have KF : ∀ w, Calls Tryd.prog 58 #[.int .i64 g.code] w fun e w' => e = .returned (.int .i64 c) ∧ w' = w := fun w => by rw [← hc]; exact gfold_any w _
  subst h0
  clear h hg hc k0 k3 k4 k5 k6 g1 g2 g3 g4 g5
  go_enter Tryd.func52, Tryd.ntmps52
  go_wp2_with fail
  go_quiet ((go_at_call 58; exact Calls.quiet_of_same (KF _)))
  go_wp2_with fail
  generalize hE : Utf8.encode 58 = T
  have HE := hide ((encode_one (c := 58) (by omega)).symm.trans hE)
  have hTs : T.size ≤ 10 := by rw [← HE.out, strOfNums_size]; simp
  have hadd : ∀ w, (Op.stringOp .add T ⟨#[61]⟩).run Tryd.prog w = .ok (.string (T ++ ⟨#[61]⟩)) w := fun w => run_string_add_sum (P := Tryd.prog) w T ⟨#[61]⟩ (by show T.size + 1 ≤ _; omega)
  generalize hU : T ++ (⟨#[61]⟩ : ByteArray) = U at hadd
  have HU := hide hU
  clear hU hTs
  clear hE
  have hbq : Below w.heap.size w ((w.alloc (.cells #[.int .i64 0, .string ⟨#[]⟩, .int .i64 0, .int .i64 0, .int .i64 0, .int .i64 0] 35)).drewN nq) := by (repeat' (first | (with_reducible exact Below.refl _ _) | (with_reducible assumption) | (with_reducible refine gdrewN ?_ _) | (with_reducible refine Below.alloc ?_ ?_ _) | (with_reducible refine Below.drew ?_) | (with_reducible refine Below.setCell ?_ ?_ _) | go_size))
  have HT1 := hide ((Tq.of_below (q := q) hbq).set 2 (.int .i64 ((i : Int) + 1)))
  have HS1 := hide ((H.out.below hbq).set (by omega))
  have HT0 : Hid (Tk0B (((w.alloc (.cells #[.int .i64 0, .string ⟨#[]⟩, .int .i64 0, .int .i64 0, .int .i64 0, .int .i64 0] 35)).drewN nq).setCell ⟨q, 2, none⟩ (.int .i64 ((i : Int) + 1))) w.heap.size) := ((heap_setCell_other _ ⟨q, 2, none⟩ w.heap.size _ (by show w.heap.size ≠ q; omega)).trans (heap_alloc_new w _))
  clear hbq k1 k2 hfr g0 hb
  generalize ((w.alloc (.cells #[.int .i64 0, .string ⟨#[]⟩, .int .i64 0, .int .i64 0, .int .i64 0, .int .i64 0] 35)).drewN nq).setCell ⟨q, 2, none⟩ (.int .i64 ((i : Int) + 1)) = w1 at HT1 HS1 HT0 ⊢
  obtain ⟨m, hm⟩ : ∃ m, m = i + 1 := ⟨_, rfl⟩
  rw [← hm] at HS1 hg2
  obtain ⟨b2, off2, e2, hG2⟩ := HS1.out.gls.glyph hg2
  obtain ⟨rfl, rfl⟩ : b2 = b ∧ off2 = off := by simpa [eq_comm] using e2
  obtain ⟨hq1, k0, k1, k2, k3, k4, k5, k6⟩ := HS1.out.cells
  obtain ⟨hb, g0, g1, g2, g3, g4, g5⟩ := hG2
  rw [he2] at g0
  have hfr := HS1.out.free 2
  obtain ⟨hfl, t0, t1, t2, t3, t4, t5, f0, f1, f2, f3, f4, f5⟩ := HT0.out.cells
  have hi2 : (m : Int) < (gs.length : Int) := by have := (List.getElem?_eq_some_iff.1 hg2).1; omega
  have hne2 : ((m : Int) == (gs.length : Int)) = false := beq_eq_false_iff_ne.2 (by omega)
  have HM := hide hm
  clear e2 k0 k3 k4 k5 k6 g1 g2 g3 g4 g5 hm
  go_wp2_with fail
  go_quiet (fail)
  clear k1 k2 g0 t0 t1 t2 t3 t4 t5 f0 f1 f2 f3 f4 f5 hfr hfl hb hq1
  have hbq : Below w1.heap.size w1 (w1.drewN nq) := by (repeat' (first | (with_reducible exact Below.refl _ _) | (with_reducible assumption) | (with_reducible refine gdrewN ?_ _) | (with_reducible refine Below.alloc ?_ ?_ _) | (with_reducible refine Below.drew ?_) | (with_reducible refine Below.setCell ?_ ?_ _) | go_size))
  replace HT1 := hide (HT1.out.trans (.of_below hbq))
  replace HS1 := hide (HS1.out.below hbq)
  replace HT0 := hide (HT0.out.below hbq)
  clear hbq
  generalize w1.drewN nq = w2 at HT1 HS1 HT0 ⊢
  generalize hf : w.heap.size = f at *
  replace hf : w.heap.size ≤ f := by omega
  have hqf : q ≠ f := by omega
  obtain ⟨hq1, k0, k1, k2, k3, k4, k5, k6⟩ := HS1.out.cells
  have hfr := HS1.out.free 2
  clear k0 k1 k3 k4 k5 k6
  have hml : (m : Int) < 100000 := by omega
  obtain ⟨hfl, t0, t1, t2, t3, t4, t5, f0, f1, f2, f3, f4, f5⟩ := HT0.out.cells
  clear hne2 hg2 he2 hi hil KF
  go_wp2
  refine bodyPost_ret (v := _) (by simp [results, Tryd.results52, go_sem, t0, t1, t2, t3, t4, t5]; try rfl) rfl ⟨?_, ?_, ?_⟩
  · refine H.out.of_tq (Tq.six (HT1.out.set 2 _) hf _ _ _ _ _ _) ((six_other _ _ _ hqf _ _ _ _ _ _).trans ?_) (by have := HM.out; omega)
    rw [heap_setCell_same w2 q 2 _ _ _ HS1.out.blk]
    have := HM.out
    simp
    omega
  · exact Tq.six (HT1.out.set 2 _) hf _ _ _ _ _ _
  · rw [← HU.out, ← HE.out]
    rfl
set_option maxRecDepth 20000 in
set_option maxHeartbeats 1000000 in
theorem sign_colon_other (w : World) (q : Nat) (s : ByteArray) (v : Value) (gs : List Gl) (i : Nat) (e : Pl) (h : Scn w q s v gs i e) (hn : gs.length ≤ 100000) (g : Gl) (hg : gs[i]? = some g) (c : Int) (hc : gfold g.code = c) (h0 : c = 58) (gn : Gl) (hg2 : gs[i + 1]? = some gn) (he2 : gn.code ≠ 61) :
    Calls Tryd.prog 52 #[.pointer (some ⟨q, 0, none⟩)] w fun r w' => Scn w' q s v gs (i + 1) e ∧ Tq w w' q ∧ r = .returned (.tuple #[tok0, .int .i64 41]) := by
  have H := hide h
  have hi : i < gs.length := (List.getElem?_eq_some_iff.1 hg).1
  have hil : (i : Int) < 100000 := by omega
  obtain ⟨ao, cap, rfl⟩ := h.gls.isSlice
  obtain ⟨b, off, rfl, hG⟩ := h.gls.glyph hg
  obtain ⟨hq, k0, k1, k2, k3, k4, k5, k6⟩ := h.cells
  obtain ⟨hb, g0, g1, g2, g3, g4, g5⟩ := hG
  have hfr := h.free 2
  have hi' : (i : Int) < (gs.length : Int) := by omega
  have KF : ∀ w, Calls Tryd.prog 58 #[.int .i64 g.code] w fun e w' => e = .returned (.int .i64 c) ∧ w' = w := fun w => by rw [← hc]; exact gfold_any w _
  subst h0
  clear h hg hc k0 k3 k4 k5 k6 g1 g2 g3 g4 g5
  unfold tok0
  go_enter Tryd.func52, Tryd.ntmps52
  go_wp2_with fail
  go_quiet ((go_at_call 58; exact Calls.quiet_of_same (KF _)))
  go_wp2_with fail
  generalize hE : Utf8.encode 58 = T
  have HE := hide ((encode_one (c := 58) (by omega)).symm.trans hE)
  have hTs : T.size ≤ 10 := by rw [← HE.out, strOfNums_size]; simp
  have hadd : ∀ w, (Op.stringOp .add T ⟨#[61]⟩).run Tryd.prog w = .ok (.string (T ++ ⟨#[61]⟩)) w := fun w => run_string_add_sum (P := Tryd.prog) w T ⟨#[61]⟩ (by show T.size + 1 ≤ _; omega)
  generalize hU : T ++ (⟨#[61]⟩ : ByteArray) = U at hadd
  have HU := hide hU
  clear hU hTs
  clear hE
  have hbq : Below w.heap.size w ((w.alloc (.cells #[.int .i64 0, .string ⟨#[]⟩, .int .i64 0, .int .i64 0, .int .i64 0, .int .i64 0] 35)).drewN nq) := by (repeat' (first | (with_reducible exact Below.refl _ _) | (with_reducible assumption) | (with_reducible refine gdrewN ?_ _) | (with_reducible refine Below.alloc ?_ ?_ _) | (with_reducible refine Below.drew ?_) | (with_reducible refine Below.setCell ?_ ?_ _) | go_size))
  have HT1 := hide ((Tq.of_below (q := q) hbq).set 2 (.int .i64 ((i : Int) + 1)))
  have HS1 := hide ((H.out.below hbq).set (by omega))
  have HT0 : Hid (Tk0B (((w.alloc (.cells #[.int .i64 0, .string ⟨#[]⟩, .int .i64 0, .int .i64 0, .int .i64 0, .int .i64 0] 35)).drewN nq).setCell ⟨q, 2, none⟩ (.int .i64 ((i : Int) + 1))) w.heap.size) := ((heap_setCell_other _ ⟨q, 2, none⟩ w.heap.size _ (by show w.heap.size ≠ q; omega)).trans (heap_alloc_new w _))
  clear hbq k1 k2 hfr g0 hb
  generalize ((w.alloc (.cells #[.int .i64 0, .string ⟨#[]⟩, .int .i64 0, .int .i64 0, .int .i64 0, .int .i64 0] 35)).drewN nq).setCell ⟨q, 2, none⟩ (.int .i64 ((i : Int) + 1)) = w1 at HT1 HS1 HT0 ⊢
  obtain ⟨m, hm⟩ : ∃ m, m = i + 1 := ⟨_, rfl⟩
  rw [← hm] at HS1 hg2
  obtain ⟨b2, off2, e2, hG2⟩ := HS1.out.gls.glyph hg2
  obtain ⟨rfl, rfl⟩ : b2 = b ∧ off2 = off := by simpa [eq_comm] using e2
  obtain ⟨hq1, k0, k1, k2, k3, k4, k5, k6⟩ := HS1.out.cells
  obtain ⟨hb, g0, g1, g2, g3, g4, g5⟩ := hG2
  have hne61 : ((gn.code : Int) != 61) = true := by simp; omega
  have hfr := HS1.out.free 2
  obtain ⟨hfl, t0, t1, t2, t3, t4, t5, f0, f1, f2, f3, f4, f5⟩ := HT0.out.cells
  have hi2 : (m : Int) < (gs.length : Int) := by have := (List.getElem?_eq_some_iff.1 hg2).1; omega
  have hne2 : ((m : Int) == (gs.length : Int)) = false := beq_eq_false_iff_ne.2 (by omega)
  have HM := hide hm
  clear e2 k0 k3 k4 k5 k6 g1 g2 g3 g4 g5 hm
  go_wp2_with fail
  go_quiet (fail)
  clear k1 k2 g0 t0 t1 t2 t3 t4 t5 f0 f1 f2 f3 f4 f5 hfr hfl hb hq1
  have hbq : Below w1.heap.size w1 (w1.drewN nq) := by (repeat' (first | (with_reducible exact Below.refl _ _) | (with_reducible assumption) | (with_reducible refine gdrewN ?_ _) | (with_reducible refine Below.alloc ?_ ?_ _) | (with_reducible refine Below.drew ?_) | (with_reducible refine Below.setCell ?_ ?_ _) | go_size))
  replace HT1 := hide (HT1.out.trans (.of_below hbq))
  replace HS1 := hide (HS1.out.below hbq)
  replace HT0 := hide (HT0.out.below hbq)
  clear hbq
  generalize w1.drewN nq = w2 at HT1 HS1 HT0 ⊢
  generalize hf : w.heap.size = f at *
  replace hf : w.heap.size ≤ f := by omega
  have hqf : q ≠ f := by omega
  obtain ⟨hq1, k0, k1, k2, k3, k4, k5, k6⟩ := HS1.out.cells
  have hfr := HS1.out.free 2
  clear k0 k1 k3 k4 k5 k6
  have hml : (m : Int) < 100000 := by omega
  obtain ⟨hfl, t0, t1, t2, t3, t4, t5, f0, f1, f2, f3, f4, f5⟩ := HT0.out.cells
  clear hne2 hg2 he2 hne61 hi hil KF
  go_wp2
  refine bodyPost_ret (v := _) (by simp [results, Tryd.results52, go_sem, t0, t1, t2, t3, t4, t5]; try rfl) rfl ⟨?_, ?_, ?_⟩
  · refine H.out.of_tq (Tq.six HT1.out hf _ _ _ _ _ _) ((six_other _ _ _ hqf _ _ _ _ _ _).trans ?_) (by have := HM.out; omega)
    rw [HS1.out.blk, HM.out]
  · exact Tq.six HT1.out hf _ _ _ _ _ _
  · rfl
set_option maxRecDepth 20000 in
set_option maxHeartbeats 1000000 in
theorem sign_colon_none (w : World) (q : Nat) (s : ByteArray) (v : Value) (gs : List Gl) (i : Nat) (e : Pl) (h : Scn w q s v gs i e) (hn : gs.length ≤ 100000) (g : Gl) (hg : gs[i]? = some g) (c : Int) (hc : gfold g.code = c) (h0 : c = 58) (hg2 : gs.length ≤ i + 1) :
    Calls Tryd.prog 52 #[.pointer (some ⟨q, 0, none⟩)] w fun r w' => Scn w' q s v gs (i + 1) e ∧ Tq w w' q ∧ r = .returned (.tuple #[tok0, .int .i64 41]) := by
  have H := hide h
  have hi : i < gs.length := (List.getElem?_eq_some_iff.1 hg).1
  have hil : (i : Int) < 100000 := by omega
  obtain ⟨ao, cap, rfl⟩ := h.gls.isSlice
  obtain ⟨b, off, rfl, hG⟩ := h.gls.glyph hg
  obtain ⟨hq, k0, k1, k2, k3, k4, k5, k6⟩ := h.cells
  obtain ⟨hb, g0, g1, g2, g3, g4, g5⟩ := hG
  have hfr := h.free 2
  have hi' : (i : Int) < (gs.length : Int) := by omega
  have KF : ∀ w, Calls Tryd.prog 58 #[.int .i64 g.code] w fun e w' => e = .returned (.int .i64 c) ∧ w' = w := fun w => by rw [← hc]; exact gfold_any w _
  subst h0
  clear h hg hc k0 k3 k4 k5 k6 g1 g2 g3 g4 g5
  unfold tok0
  go_enter Tryd.func52, Tryd.ntmps52
  go_wp2_with fail
  go_quiet ((go_at_call 58; exact Calls.quiet_of_same (KF _)))
  go_wp2_with fail
  generalize hE : Utf8.encode 58 = T
  have HE := hide ((encode_one (c := 58) (by omega)).symm.trans hE)
  have hTs : T.size ≤ 10 := by rw [← HE.out, strOfNums_size]; simp
  have hadd : ∀ w, (Op.stringOp .add T ⟨#[61]⟩).run Tryd.prog w = .ok (.string (T ++ ⟨#[61]⟩)) w := fun w => run_string_add_sum (P := Tryd.prog) w T ⟨#[61]⟩ (by show T.size + 1 ≤ _; omega)
  generalize hU : T ++ (⟨#[61]⟩ : ByteArray) = U at hadd
  have HU := hide hU
  clear hU hTs
  clear hE
  have hbq : Below w.heap.size w ((w.alloc (.cells #[.int .i64 0, .string ⟨#[]⟩, .int .i64 0, .int .i64 0, .int .i64 0, .int .i64 0] 35)).drewN nq) := by (repeat' (first | (with_reducible exact Below.refl _ _) | (with_reducible assumption) | (with_reducible refine gdrewN ?_ _) | (with_reducible refine Below.alloc ?_ ?_ _) | (with_reducible refine Below.drew ?_) | (with_reducible refine Below.setCell ?_ ?_ _) | go_size))
  have HT1 := hide ((Tq.of_below (q := q) hbq).set 2 (.int .i64 ((i : Int) + 1)))
  have HS1 := hide ((H.out.below hbq).set (by omega))
  have HT0 : Hid (Tk0B (((w.alloc (.cells #[.int .i64 0, .string ⟨#[]⟩, .int .i64 0, .int .i64 0, .int .i64 0, .int .i64 0] 35)).drewN nq).setCell ⟨q, 2, none⟩ (.int .i64 ((i : Int) + 1))) w.heap.size) := ((heap_setCell_other _ ⟨q, 2, none⟩ w.heap.size _ (by show w.heap.size ≠ q; omega)).trans (heap_alloc_new w _))
  clear hbq k1 k2 hfr g0 hb
  generalize ((w.alloc (.cells #[.int .i64 0, .string ⟨#[]⟩, .int .i64 0, .int .i64 0, .int .i64 0, .int .i64 0] 35)).drewN nq).setCell ⟨q, 2, none⟩ (.int .i64 ((i : Int) + 1)) = w1 at HT1 HS1 HT0 ⊢
  obtain ⟨m, hm⟩ : ∃ m, m = i + 1 := ⟨_, rfl⟩
  rw [← hm] at HS1
  obtain ⟨hq1, k0, k1, k2, k3, k4, k5, k6⟩ := HS1.out.cells
  obtain ⟨hfl, t0, t1, t2, t3, t4, t5, f0, f1, f2, f3, f4, f5⟩ := HT0.out.cells
  have hne2 : ((m : Int) == (gs.length : Int)) = true := by simp; omega
  have HM := hide hm
  clear k0 k3 k4 k5 k6 hm
  go_wp2_with fail
  go_quiet (fail)
  clear k1 k2 t0 t1 t2 t3 t4 t5 f0 f1 f2 f3 f4 f5 hfl hq1
  have hbq : Below w1.heap.size w1 (w1.drewN nq) := by (repeat' (first | (with_reducible exact Below.refl _ _) | (with_reducible assumption) | (with_reducible refine gdrewN ?_ _) | (with_reducible refine Below.alloc ?_ ?_ _) | (with_reducible refine Below.drew ?_) | (with_reducible refine Below.setCell ?_ ?_ _) | go_size))
  replace HT1 := hide (HT1.out.trans (.of_below hbq))
  replace HS1 := hide (HS1.out.below hbq)
  replace HT0 := hide (HT0.out.below hbq)
  clear hbq
  generalize w1.drewN nq = w2 at HT1 HS1 HT0 ⊢
  generalize hf : w.heap.size = f at *
  replace hf : w.heap.size ≤ f := by omega
  have hqf : q ≠ f := by omega
  obtain ⟨hq1, k0, k1, k2, k3, k4, k5, k6⟩ := HS1.out.cells
  have hfr := HS1.out.free 2
  clear k0 k1 k3 k4 k5 k6
  have hml : (m : Int) < 100001 := by have := HM.out; omega
  obtain ⟨hfl, t0, t1, t2, t3, t4, t5, f0, f1, f2, f3, f4, f5⟩ := HT0.out.cells
  clear hne2 hi hil KF
  go_wp2
  refine bodyPost_ret (v := _) (by simp [results, Tryd.results52, go_sem, t0, t1, t2, t3, t4, t5]; try rfl) rfl ⟨?_, ?_, ?_⟩
  · refine H.out.of_tq (Tq.six HT1.out hf _ _ _ _ _ _) ((six_other _ _ _ hqf _ _ _ _ _ _).trans ?_) (by have := HM.out; omega)
    rw [HS1.out.blk, HM.out]
  · exact Tq.six HT1.out hf _ _ _ _ _ _
  · rfl
set_option maxRecDepth 20000 in
set_option maxHeartbeats 1000000 in
theorem sign_bang (w : World) (q : Nat) (s : ByteArray) (v : Value) (gs : List Gl) (i : Nat) (e : Pl) (h : Scn w q s v gs i e) (hn : gs.length ≤ 100000) (g : Gl) (hg : gs[i]? = some g) (c : Int) (hc : gfold g.code = c) (h0 : c = 33) (gn : Gl) (hg2 : gs[i + 1]? = some gn) (he2 : gn.code = 61) :
    Calls Tryd.prog 52 #[.pointer (some ⟨q, 0, none⟩)] w fun r w' => Scn w' q s v gs (i + 2) e ∧ Tq w w' q ∧ r = .returned (.tuple #[.agg #[.int .i64 3, .string (strOfNums [33, 61]), .int .i64 0, .int .i64 0, .int .i64 0, .int .i64 0], .int .i64 0]) := by
  have H := hide h
  have hi : i < gs.length := (List.getElem?_eq_some_iff.1 hg).1
  have hil : (i : Int) < 100000 := by omega
  obtain ⟨ao, cap, rfl⟩ := h.gls.isSlice
  obtain ⟨b, off, rfl, hG⟩ := h.gls.glyph hg
  obtain ⟨hq, k0, k1, k2, k3, k4, k5, k6⟩ := h.cells
  obtain ⟨hb, g0, g1, g2, g3, g4, g5⟩ := hG
  have hfr := h.free 2
  have hi' : (i : Int) < (gs.length : Int) := by omega
  have KF : ∀ w, Calls Tryd.prog 58 #[.int .i64 g.code] w fun e w' => e = .returned (.int .i64 c) ∧ w' = w := fun w => by rw [← hc]; exact gfold_any w _
  subst h0
  clear h hg hc k0 k3 k4 k5 k6 g1 g2 g3 g4 g5
  go_enter Tryd.func52, Tryd.ntmps52
  go_wp2_with fail
  go_quiet ((go_at_call 58; exact Calls.quiet_of_same (KF _)))
  go_wp2_with fail
  generalize hE : Utf8.encode 33 = T
  have HE := hide ((encode_one (c := 33) (by omega)).symm.trans hE)
  have hTs : T.size ≤ 10 := by rw [← HE.out, strOfNums_size]; simp
  have hadd : ∀ w, (Op.stringOp .add T ⟨#[61]⟩).run Tryd.prog w = .ok (.string (T ++ ⟨#[61]⟩)) w := fun w => run_string_add_sum (P := Tryd.prog) w T ⟨#[61]⟩ (by show T.size + 1 ≤ _; omega)
  generalize hU : T ++ (⟨#[61]⟩ : ByteArray) = U at hadd
  have HU := hide hU
  clear hU hTs
  clear hE
  have hbq : Below w.heap.size w ((w.alloc (.cells #[.int .i64 0, .string ⟨#[]⟩, .int .i64 0, .int .i64 0, .int .i64 0, .int .i64 0] 35)).drewN nq) := by (repeat' (first | (with_reducible exact Below.refl _ _) | (with_reducible assumption) | (with_reducible refine gdrewN ?_ _) | (with_reducible refine Below.alloc ?_ ?_ _) | (with_reducible refine Below.drew ?_) | (with_reducible refine Below.setCell ?_ ?_ _) | go_size))
  have HT1 := hide ((Tq.of_below (q := q) hbq).set 2 (.int .i64 ((i : Int) + 1)))
  have HS1 := hide ((H.out.below hbq).set (by omega))
  have HT0 : Hid (Tk0B (((w.alloc (.cells #[.int .i64 0, .string ⟨#[]⟩, .int .i64 0, .int .i64 0, .int .i64 0, .int .i64 0] 35)).drewN nq).setCell ⟨q, 2, none⟩ (.int .i64 ((i : Int) + 1))) w.heap.size) := ((heap_setCell_other _ ⟨q, 2, none⟩ w.heap.size _ (by show w.heap.size ≠ q; omega)).trans (heap_alloc_new w _))
  clear hbq k1 k2 hfr g0 hb
  generalize ((w.alloc (.cells #[.int .i64 0, .string ⟨#[]⟩, .int .i64 0, .int .i64 0, .int .i64 0, .int .i64 0] 35)).drewN nq).setCell ⟨q, 2, none⟩ (.int .i64 ((i : Int) + 1)) = w1 at HT1 HS1 HT0 ⊢
  obtain ⟨m, hm⟩ : ∃ m, m = i + 1 := ⟨_, rfl⟩
  rw [← hm] at HS1 hg2
  obtain ⟨b2, off2, e2, hG2⟩ := HS1.out.gls.glyph hg2
  obtain ⟨rfl, rfl⟩ : b2 = b ∧ off2 = off := by simpa [eq_comm] using e2
  obtain ⟨hq1, k0, k1, k2, k3, k4, k5, k6⟩ := HS1.out.cells
  obtain ⟨hb, g0, g1, g2, g3, g4, g5⟩ := hG2
  rw [he2] at g0
  have hfr := HS1.out.free 2
  obtain ⟨hfl, t0, t1, t2, t3, t4, t5, f0, f1, f2, f3, f4, f5⟩ := HT0.out.cells
  have hi2 : (m : Int) < (gs.length : Int) := by have := (List.getElem?_eq_some_iff.1 hg2).1; omega
  have hne2 : ((m : Int) == (gs.length : Int)) = false := beq_eq_false_iff_ne.2 (by omega)
  have HM := hide hm
  clear e2 k0 k3 k4 k5 k6 g1 g2 g3 g4 g5 hm
  go_wp2_with fail
  go_quiet (fail)
  clear k1 k2 g0 t0 t1 t2 t3 t4 t5 f0 f1 f2 f3 f4 f5 hfr hfl hb hq1
  have hbq : Below w1.heap.size w1 (w1.drewN nq) := by (repeat' (first | (with_reducible exact Below.refl _ _) | (with_reducible assumption) | (with_reducible refine gdrewN ?_ _) | (with_reducible refine Below.alloc ?_ ?_ _) | (with_reducible refine Below.drew ?_) | (with_reducible refine Below.setCell ?_ ?_ _) | go_size))
  replace HT1 := hide (HT1.out.trans (.of_below hbq))
  replace HS1 := hide (HS1.out.below hbq)
  replace HT0 := hide (HT0.out.below hbq)
  clear hbq
  generalize w1.drewN nq = w2 at HT1 HS1 HT0 ⊢
  generalize hf : w.heap.size = f at *
  replace hf : w.heap.size ≤ f := by omega
  have hqf : q ≠ f := by omega
  obtain ⟨hq1, k0, k1, k2, k3, k4, k5, k6⟩ := HS1.out.cells
  have hfr := HS1.out.free 2
  clear k0 k1 k3 k4 k5 k6
  have hml : (m : Int) < 100000 := by omega
  obtain ⟨hfl, t0, t1, t2, t3, t4, t5, f0, f1, f2, f3, f4, f5⟩ := HT0.out.cells
  clear hne2 hg2 he2 hi hil KF
  go_wp2
  refine bodyPost_ret (v := _) (by simp [results, Tryd.results52, go_sem, t0, t1, t2, t3, t4, t5]; try rfl) rfl ⟨?_, ?_, ?_⟩
  · refine H.out.of_tq (Tq.six (HT1.out.set 2 _) hf _ _ _ _ _ _) ((six_other _ _ _ hqf _ _ _ _ _ _).trans ?_) (by have := HM.out; omega)
    rw [heap_setCell_same w2 q 2 _ _ _ HS1.out.blk]
    have := HM.out
    simp
    omega
  · exact Tq.six (HT1.out.set 2 _) hf _ _ _ _ _ _
  · rw [← HU.out, ← HE.out]
    rfl
set_option maxRecDepth 20000 in
set_option maxHeartbeats 1000000 in
theorem sign_bang_other (w : World) (q : Nat) (s : ByteArray) (v : Value) (gs : List Gl) (i : Nat) (e : Pl) (h : Scn w q s v gs i e) (hn : gs.length ≤ 100000) (g : Gl) (hg : gs[i]? = some g) (c : Int) (hc : gfold g.code = c) (h0 : c = 33) (gn : Gl) (hg2 : gs[i + 1]? = some gn) (he2 : gn.code ≠ 61) :
    Calls Tryd.prog 52 #[.pointer (some ⟨q, 0, none⟩)] w fun r w' => Scn w' q s v gs (i + 1) e ∧ Tq w w' q ∧ r = .returned (.tuple #[tok0, .int .i64 41]) := by
  have H := hide h
  have hi : i < gs.length := (List.getElem?_eq_some_iff.1 hg).1
  have hil : (i : Int) < 100000 := by omega
  obtain ⟨ao, cap, rfl⟩ := h.gls.isSlice
  obtain ⟨b, off, rfl, hG⟩ := h.gls.glyph hg
  obtain ⟨hq, k0, k1, k2, k3, k4, k5, k6⟩ := h.cells
  obtain ⟨hb, g0, g1, g2, g3, g4, g5⟩ := hG
  have hfr := h.free 2
  have hi' : (i : Int) < (gs.length : Int) := by omega
  have KF : ∀ w, Calls Tryd.prog 58 #[.int .i64 g.code] w fun e w' => e = .returned (.int .i64 c) ∧ w' = w := fun w => by rw [← hc]; exact gfold_any w _
  subst h0
  clear h hg hc k0 k3 k4 k5 k6 g1 g2 g3 g4 g5
  unfold tok0
  go_enter Tryd.func52, Tryd.ntmps52
  go_wp2_with fail
  go_quiet ((go_at_call 58; exact Calls.quiet_of_same (KF _)))
  go_wp2_with fail
  generalize hE : Utf8.encode 33 = T
  have HE := hide ((encode_one (c := 33) (by omega)).symm.trans hE)
  have hTs : T.size ≤ 10 := by rw [← HE.out, strOfNums_size]; simp
  have hadd : ∀ w, (Op.stringOp .add T ⟨#[61]⟩).run Tryd.prog w = .ok (.string (T ++ ⟨#[61]⟩)) w := fun w => run_string_add_sum (P := Tryd.prog) w T ⟨#[61]⟩ (by show T.size + 1 ≤ _; omega)
  generalize hU : T ++ (⟨#[61]⟩ : ByteArray) = U at hadd
  have HU := hide hU
  clear hU hTs
  clear hE
  have hbq : Below w.heap.size w ((w.alloc (.cells #[.int .i64 0, .string ⟨#[]⟩, .int .i64 0, .int .i64 0, .int .i64 0, .int .i64 0] 35)).drewN nq) := by (repeat' (first | (with_reducible exact Below.refl _ _) | (with_reducible assumption) | (with_reducible refine gdrewN ?_ _) | (with_reducible refine Below.alloc ?_ ?_ _) | (with_reducible refine Below.drew ?_) | (with_reducible refine Below.setCell ?_ ?_ _) | go_size))
  have HT1 := hide ((Tq.of_below (q := q) hbq).set 2 (.int .i64 ((i : Int) + 1)))
  have HS1 := hide ((H.out.below hbq).set (by omega))
  have HT0 : Hid (Tk0B (((w.alloc (.cells #[.int .i64 0, .string ⟨#[]⟩, .int .i64 0, .int .i64 0, .int .i64 0, .int .i64 0] 35)).drewN nq).setCell ⟨q, 2, none⟩ (.int .i64 ((i : Int) + 1))) w.heap.size) := ((heap_setCell_other _ ⟨q, 2, none⟩ w.heap.size _ (by show w.heap.size ≠ q; omega)).trans (heap_alloc_new w _))
  clear hbq k1 k2 hfr g0 hb
  generalize ((w.alloc (.cells #[.int .i64 0, .string ⟨#[]⟩, .int .i64 0, .int .i64 0, .int .i64 0, .int .i64 0] 35)).drewN nq).setCell ⟨q, 2, none⟩ (.int .i64 ((i : Int) + 1)) = w1 at HT1 HS1 HT0 ⊢
  obtain ⟨m, hm⟩ : ∃ m, m = i + 1 := ⟨_, rfl⟩
  rw [← hm] at HS1 hg2
  obtain ⟨b2, off2, e2, hG2⟩ := HS1.out.gls.glyph hg2
  obtain ⟨rfl, rfl⟩ : b2 = b ∧ off2 = off := by simpa [eq_comm] using e2
  obtain ⟨hq1, k0, k1, k2, k3, k4, k5, k6⟩ := HS1.out.cells
  obtain ⟨hb, g0, g1, g2, g3, g4, g5⟩ := hG2
  have hne61 : ((gn.code : Int) != 61) = true := by simp; omega
  have hfr := HS1.out.free 2
  obtain ⟨hfl, t0, t1, t2, t3, t4, t5, f0, f1, f2, f3, f4, f5⟩ := HT0.out.cells
  have hi2 : (m : Int) < (gs.length : Int) := by have := (List.getElem?_eq_some_iff.1 hg2).1; omega
  have hne2 : ((m : Int) == (gs.length : Int)) = false := beq_eq_false_iff_ne.2 (by omega)
  have HM := hide hm
  clear e2 k0 k3 k4 k5 k6 g1 g2 g3 g4 g5 hm
  go_wp2_with fail
  go_quiet (fail)
  clear k1 k2 g0 t0 t1 t2 t3 t4 t5 f0 f1 f2 f3 f4 f5 hfr hfl hb hq1
  have hbq : Below w1.heap.size w1 (w1.drewN nq) := by (repeat' (first | (with_reducible exact Below.refl _ _) | (with_reducible assumption) | (with_reducible refine gdrewN ?_ _) | (with_reducible refine Below.alloc ?_ ?_ _) | (with_reducible refine Below.drew ?_) | (with_reducible refine Below.setCell ?_ ?_ _) | go_size))
  replace HT1 := hide (HT1.out.trans (.of_below hbq))
  replace HS1 := hide (HS1.out.below hbq)
  replace HT0 := hide (HT0.out.below hbq)
  clear hbq
  generalize w1.drewN nq = w2 at HT1 HS1 HT0 ⊢
  generalize hf : w.heap.size = f at *
  replace hf : w.heap.size ≤ f := by omega
  have hqf : q ≠ f := by omega
  obtain ⟨hq1, k0, k1, k2, k3, k4, k5, k6⟩ := HS1.out.cells
  have hfr := HS1.out.free 2
  clear k0 k1 k3 k4 k5 k6
  have hml : (m : Int) < 100000 := by omega
  obtain ⟨hfl, t0, t1, t2, t3, t4, t5, f0, f1, f2, f3, f4, f5⟩ := HT0.out.cells
  clear hne2 hg2 he2 hne61 hi hil KF
  go_wp2
  refine bodyPost_ret (v := _) (by simp [results, Tryd.results52, go_sem, t0, t1, t2, t3, t4, t5]; try rfl) rfl ⟨?_, ?_, ?_⟩
  · refine H.out.of_tq (Tq.six HT1.out hf _ _ _ _ _ _) ((six_other _ _ _ hqf _ _ _ _ _ _).trans ?_) (by have := HM.out; omega)
    rw [HS1.out.blk, HM.out]
  · exact Tq.six HT1.out hf _ _ _ _ _ _
  · rfl
set_option maxRecDepth 20000 in
set_option maxHeartbeats 1000000 in
theorem sign_bang_none (w : World) (q : Nat) (s : ByteArray) (v : Value) (gs : List Gl) (i : Nat) (e : Pl) (h : Scn w q s v gs i e) (hn : gs.length ≤ 100000) (g : Gl) (hg : gs[i]? = some g) (c : Int) (hc : gfold g.code = c) (h0 : c = 33) (hg2 : gs.length ≤ i + 1) :
    Calls Tryd.prog 52 #[.pointer (some ⟨q, 0, none⟩)] w fun r w' => Scn w' q s v gs (i + 1) e ∧ Tq w w' q ∧ r = .returned (.tuple #[tok0, .int .i64 41]) := by
  have H := hide h
  have hi : i < gs.length := (List.getElem?_eq_some_iff.1 hg).1
  have hil : (i : Int) < 100000 := by omega
  obtain ⟨ao, cap, rfl⟩ := h.gls.isSlice
  obtain ⟨b, off, rfl, hG⟩ := h.gls.glyph hg
  obtain ⟨hq, k0, k1, k2, k3, k4, k5, k6⟩ := h.cells
  obtain ⟨hb, g0, g1, g2, g3, g4, g5⟩ := hG
  have hfr := h.free 2
  have hi' : (i : Int) < (gs.length : Int) := by omega
  have KF : ∀ w, Calls Tryd.prog 58 #[.int .i64 g.code] w fun e w' => e = .returned (.int .i64 c) ∧ w' = w := fun w => by rw [← hc]; exact gfold_any w _
  subst h0
  clear h hg hc k0 k3 k4 k5 k6 g1 g2 g3 g4 g5
  unfold tok0
  go_enter Tryd.func52, Tryd.ntmps52
  go_wp2_with fail
  go_quiet ((go_at_call 58; exact Calls.quiet_of_same (KF _)))
  go_wp2_with fail
  generalize hE : Utf8.encode 33 = T
  have HE := hide ((encode_one (c := 33) (by omega)).symm.trans hE)
  have hTs : T.size ≤ 10 := by rw [← HE.out, strOfNums_size]; simp
  have hadd : ∀ w, (Op.stringOp .add T ⟨#[61]⟩).run Tryd.prog w = .ok (.string (T ++ ⟨#[61]⟩)) w := fun w => run_string_add_sum (P := Tryd.prog) w T ⟨#[61]⟩ (by show T.size + 1 ≤ _; omega)
  generalize hU : T ++ (⟨#[61]⟩ : ByteArray) = U at hadd
  have HU := hide hU
  clear hU hTs
  clear hE
  have hbq : Below w.heap.size w ((w.alloc (.cells #[.int .i64 0, .string ⟨#[]⟩, .int .i64 0, .int .i64 0, .int .i64 0, .int .i64 0] 35)).drewN nq) := by (repeat' (first | (with_reducible exact Below.refl _ _) | (with_reducible assumption) | (with_reducible refine gdrewN ?_ _) | (with_reducible refine Below.alloc ?_ ?_ _) | (with_reducible refine Below.drew ?_) | (with_reducible refine Below.setCell ?_ ?_ _) | go_size))
  have HT1 := hide ((Tq.of_below (q := q) hbq).set 2 (.int .i64 ((i : Int) + 1)))
  have HS1 := hide ((H.out.below hbq).set (by omega))
  have HT0 : Hid (Tk0B (((w.alloc (.cells #[.int .i64 0, .string ⟨#[]⟩, .int .i64 0, .int .i64 0, .int .i64 0, .int .i64 0] 35)).drewN nq).setCell ⟨q, 2, none⟩ (.int .i64 ((i : Int) + 1))) w.heap.size) := ((heap_setCell_other _ ⟨q, 2, none⟩ w.heap.size _ (by show w.heap.size ≠ q; omega)).trans (heap_alloc_new w _))
  clear hbq k1 k2 hfr g0 hb
  generalize ((w.alloc (.cells #[.int .i64 0, .string ⟨#[]⟩, .int .i64 0, .int .i64 0, .int .i64 0, .int .i64 0] 35)).drewN nq).setCell ⟨q, 2, none⟩ (.int .i64 ((i : Int) + 1)) = w1 at HT1 HS1 HT0 ⊢
  obtain ⟨m, hm⟩ : ∃ m, m = i + 1 := ⟨_, rfl⟩
  rw [← hm] at HS1
  obtain ⟨hq1, k0, k1, k2, k3, k4, k5, k6⟩ := HS1.out.cells
  obtain ⟨hfl, t0, t1, t2, t3, t4, t5, f0, f1, f2, f3, f4, f5⟩ := HT0.out.cells
  have hne2 : ((m : Int) == (gs.length : Int)) = true := by simp; omega
  have HM := hide hm
  clear k0 k3 k4 k5 k6 hm
  go_wp2_with fail
  go_quiet (fail)
  clear k1 k2 t0 t1 t2 t3 t4 t5 f0 f1 f2 f3 f4 f5 hfl hq1
  have hbq : Below w1.heap.size w1 (w1.drewN nq) := by (repeat' (first | (with_reducible exact Below.refl _ _) | (with_reducible assumption) | (with_reducible refine gdrewN ?_ _) | (with_reducible refine Below.alloc ?_ ?_ _) | (with_reducible refine Below.drew ?_) | (with_reducible refine Below.setCell ?_ ?_ _) | go_size))
  replace HT1 := hide (HT1.out.trans (.of_below hbq))
  replace HS1 := hide (HS1.out.below hbq)
  replace HT0 := hide (HT0.out.below hbq)
  clear hbq
  generalize w1.drewN nq = w2 at HT1 HS1 HT0 ⊢
  generalize hf : w.heap.size = f at *
  replace hf : w.heap.size ≤ f := by omega
  have hqf : q ≠ f := by omega
  obtain ⟨hq1, k0, k1, k2, k3, k4, k5, k6⟩ := HS1.out.cells
  have hfr := HS1.out.free 2
  clear k0 k1 k3 k4 k5 k6
  have hml : (m : Int) < 100001 := by have := HM.out; omega
  obtain ⟨hfl, t0, t1, t2, t3, t4, t5, f0, f1, f2, f3, f4, f5⟩ := HT0.out.cells
  clear hne2 hi hil KF
  go_wp2
  refine bodyPost_ret (v := _) (by simp [results, Tryd.results52, go_sem, t0, t1, t2, t3, t4, t5]; try rfl) rfl ⟨?_, ?_, ?_⟩
  · refine H.out.of_tq (Tq.six HT1.out hf _ _ _ _ _ _) ((six_other _ _ _ hqf _ _ _ _ _ _).trans ?_) (by have := HM.out; omega)
    rw [HS1.out.blk, HM.out]
  · exact Tq.six HT1.out hf _ _ _ _ _ _
  · rfl
end Lm
end Go.Proofs.YtgfglefgpgckiaaDoor

namespace Go.Proofs.YtgfglefgpgckiaaDoor
namespace Lm
open Go Go.RowKit
inductive TO where
  | bad (k : Int) : TO
  | ok (kind : Int) (text : ByteArray) (rest : List Gl) : TO
def signS (c : Int) (r : List Gl) : TO :=
  if c = 8788 then .ok 3 (strOfNums [58, 61]) r
  else if c = 8800 then .ok 3 (strOfNums [33, 61]) r
  else if c = 58 ∨ c = 33 then (match r with | [] => .bad 41 | h :: t => if h.code = 61 then .ok 3 (strOfNums [c, 61]) t else .bad 41)
  else .ok 3 (strOfNums [c]) r
def TokR (s : ByteArray) (e : Pl) (g : Gl) (r : List Gl) (o : TO) : Prop :=
  if gcls g.code = 2 then
    o = if 16 < (g :: r).length - ((g :: r).dropWhile (inC [2, 3, 4])).length then .bad 42 else .ok 1 (s.extract g.pl.b (plf ((g :: r).dropWhile (inC [2, 3, 4])) e).b) ((g :: r).dropWhile (inC [2, 3, 4]))
  else if gcls g.code = 3 then
    ∃ n ds, IsLen (dval (bytesOf (s.extract g.pl.b (plf ((g :: r).dropWhile (inC [3])) e).b))) n ∧ IsDec ds (dval (bytesOf (s.extract g.pl.b (plf ((g :: r).dropWhile (inC [3])) e).b))) ∧ o = if 32 < n then .bad 2 else .ok 2 (strOfNums ds) ((g :: r).dropWhile (inC [3]))
  else if gcls g.code = 5 then o = signS (gfold g.code) r
  else o = .bad 41
theorem tokR_name {s : ByteArray} {e : Pl} {g : Gl} {r : List Gl} (h : gcls g.code = 2) : TokR s e g r (if 16 < (g :: r).length - ((g :: r).dropWhile (inC [2, 3, 4])).length then .bad 42 else .ok 1 (s.extract g.pl.b (plf ((g :: r).dropWhile (inC [2, 3, 4])) e).b) ((g :: r).dropWhile (inC [2, 3, 4]))) := by
  unfold TokR
  rw [if_pos h]
theorem tokR_num {s : ByteArray} {e : Pl} {g : Gl} {r : List Gl} {n : Nat} {ds : List Int} (h : gcls g.code = 3) (h1 : IsLen (dval (bytesOf (s.extract g.pl.b (plf ((g :: r).dropWhile (inC [3])) e).b))) n) (h2 : IsDec ds (dval (bytesOf (s.extract g.pl.b (plf ((g :: r).dropWhile (inC [3])) e).b)))) : TokR s e g r (if 32 < n then .bad 2 else .ok 2 (strOfNums ds) ((g :: r).dropWhile (inC [3]))) := by
  unfold TokR
  rw [if_neg (by omega), if_pos h]
  exact ⟨n, ds, h1, h2, rfl⟩
theorem tokR_sign {s : ByteArray} {e : Pl} {g : Gl} {r : List Gl} (h : gcls g.code = 5) : TokR s e g r (signS (gfold g.code) r) := by
  unfold TokR
  rw [if_neg (by omega), if_neg (by omega), if_pos h]
theorem tokR_other {s : ByteArray} {e : Pl} {g : Gl} {r : List Gl} (h2 : gcls g.code ≠ 2) (h3 : gcls g.code ≠ 3) (h5 : gcls g.code ≠ 5) : TokR s e g r (.bad 41) := by
  unfold TokR
  rw [if_neg h2, if_neg h3, if_neg h5]
theorem TokR.one {s : ByteArray} {e : Pl} {g : Gl} {r : List Gl} {o o' : TO} (h : TokR s e g r o) (h' : TokR s e g r o') : o = o' := by
  unfold TokR at h h'
  by_cases c2 : gcls g.code = 2
  · rw [if_pos c2] at h h'
    rw [h, h']
  · rw [if_neg c2] at h h'
    by_cases c3 : gcls g.code = 3
    · rw [if_pos c3] at h h'
      obtain ⟨n, ds, h1, h2, h3⟩ := h
      obtain ⟨n', ds', h1', h2', h3'⟩ := h'
      rw [h3, h3', isLen_one h1 h1', isDec_one h2 h2']
    · rw [if_neg c3] at h h'
      by_cases c5 : gcls g.code = 5
      · rw [if_pos c5] at h h'
        rw [h, h']
      · rw [if_neg c5] at h h'
        rw [h, h']
structure Tk where
  kind : Int
  text : ByteArray
  pl : Pl
inductive SO where
  | bad (k : Int) (p : Pl) : SO
  | ok (l : List Tk) : SO
def SO.pre (t : Tk) : SO → SO
  | .bad k p => .bad k p
  | .ok l => .ok (t :: l)
def SO.pres (ts : List Tk) : SO → SO
  | .bad k p => .bad k p
  | .ok l => .ok (ts ++ l)
inductive ScanR (s : ByteArray) (e : Pl) : List Gl → SO → Prop
  | done (r : List Gl) (h : skp false r = []) (hb : s.size ≤ e.b) : ScanR s e r (.ok [⟨0, ⟨#[]⟩, e⟩])
  | rune (r : List Gl) (h : skp false r = []) (hb : e.b < s.size) : ScanR s e r (.bad 40 e)
  | bad (r : List Gl) (g : Gl) (t : List Gl) (k : Int) (h : skp false r = g :: t) (ht : TokR s e g t (.bad k)) : ScanR s e r (.bad k g.pl)
  | tok (r : List Gl) (g : Gl) (t : List Gl) (kind : Int) (text : ByteArray) (rest : List Gl) (o : SO) (h : skp false r = g :: t) (ht : TokR s e g t (.ok kind text rest)) (hr : ScanR s e rest o) : ScanR s e r (o.pre ⟨kind, text, g.pl⟩)
theorem ScanR.one {s : ByteArray} {e : Pl} {r : List Gl} {o o' : SO} (h : ScanR s e r o) (h' : ScanR s e r o') : o = o' := by
  induction h generalizing o' with
  | done r h hb =>
    cases h' with
    | done _ _ _ => rfl
    | rune _ _ hb' => omega
    | bad _ g t k h2 _ => rw [h] at h2; cases h2
    | tok _ g t _ _ _ _ h2 _ _ => rw [h] at h2; cases h2
  | rune r h hb =>
    cases h' with
    | done _ _ hb' => omega
    | rune _ _ _ => rfl
    | bad _ g t k h2 _ => rw [h] at h2; cases h2
    | tok _ g t _ _ _ _ h2 _ _ => rw [h] at h2; cases h2
  | bad r g t k h ht =>
    cases h' with
    | done _ h2 _ => rw [h] at h2; cases h2
    | rune _ h2 _ => rw [h] at h2; cases h2
    | bad _ g' t' k' h2 ht' =>
      rw [h] at h2
      obtain ⟨rfl, rfl⟩ := List.cons.inj h2
      have := ht.one ht'
      injection this with e1
      rw [e1]
    | tok _ g' t' _ _ _ _ h2 ht' _ =>
      rw [h] at h2
      obtain ⟨rfl, rfl⟩ := List.cons.inj h2
      have := ht.one ht'
      cases this
  | tok r g t kind text rest o h ht hr ih =>
    cases h' with
    | done _ h2 _ => rw [h] at h2; cases h2
    | rune _ h2 _ => rw [h] at h2; cases h2
    | bad _ g' t' k' h2 ht' =>
      rw [h] at h2
      obtain ⟨rfl, rfl⟩ := List.cons.inj h2
      have := ht.one ht'
      cases this
    | tok _ g' t' _ _ _ _ h2 ht' hr' =>
      rw [h] at h2
      obtain ⟨rfl, rfl⟩ := List.cons.inj h2
      have := ht.one ht'
      injection this with e1 e2 e3
      subst e1 e2 e3
      rw [ih hr']
end Lm
end Go.Proofs.YtgfglefgpgckiaaDoor

namespace Go.Proofs.YtgfglefgpgckiaaDoor
namespace Lm
open Go Go.RowKit
def inK (ks : List Int) (c : Nat) : Bool := decide (gcls c ∈ ks)
def bts (l : List UInt8) : ByteArray := ⟨l.toArray⟩
def Stop (ks : List Int) (r : List Nat) : Prop := ∀ c t, r = c :: t → inK ks c = false
theorem encs_append (a b : List Nat) : encs (a ++ b) = encs a ++ encs b := by
  induction a with
  | nil => rfl
  | cons c a ih => simp only [List.cons_append, encs, ih, List.append_assoc]
end Lm
end Go.Proofs.YtgfglefgpgckiaaDoor

namespace Go.Proofs
open Go.Shelf
shelf_lay Lays.n197 Nm 197 at Tryd as Tryd.lays197
namespace YtgfglefgpgckiaaDoor
namespace Lm
open Go Go.RowKit
def Tabs (w : World) : Prop := Lib.Utf8Tabs (Tryd.lays197_ren.g 3) (Tryd.lays197_ren.g 4) w
theorem Tabs.below {w w' : World} (h : Tabs w) (hb : Below w.heap.size w w') : Tabs w' := Utf8Tabs_below h hb
theorem decode_any (w : World) (s : ByteArray) (hT : Tabs w) :
    Calls Tryd.prog 48 #[.string s] w fun e w' => e = .returned (.tuple #[.int .i32 (Lib.decodeGo s).1, .int .i64 (Lib.decodeGo s).2]) ∧ Below w.heap.size w w' := Any.utf8_DecodeRuneInString Tryd.lays197 s w hT
end Lm
end YtgfglefgpgckiaaDoor
end Go.Proofs

namespace Go.Proofs.YtgfglefgpgckiaaDoor
namespace Lm
open Go Go.RowKit
theorem get!_out (s : ByteArray) (k : Nat) (h : s.size ≤ k) : (s.get! k).toNat = 0 := by
  cases s with
  | mk d =>
    have : d[k]! = default := getElem!_neg d k (by simpa [ByteArray.size] using h)
    show (d[k]!).toNat = 0
    rw [this]
    rfl
theorem decodeGo_at (s : ByteArray) (i : Nat) (h : i < s.size) : Lib.decodeGo (s.extract i s.size) = Utf8.decode s i := by
  have hsz : (s.extract i s.size).size = s.size - i := by rw [ByteArray.size_extract]; omega
  rw [Lib.decodeGo, if_neg (by omega), Lib.decode_at, Lib.decode_at, hsz]
  have key : ∀ k, ((s.extract i s.size).get! k).toNat = (s.get! (i + k)).toNat := by
    intro k
    by_cases hk : k < s.size - i
    · have h1 := get!_getD (s.extract i s.size) k (by omega)
      have h2 := get!_getD s (i + k) (by omega)
      rw [bytesOf_extract, List.getD_eq_getElem?_getD, List.getElem?_take_of_lt (by omega), List.getElem?_drop, ← List.getD_eq_getElem?_getD] at h1
      rw [h1] at h2
      exact_mod_cast h2
    · rw [get!_out _ _ (by omega), get!_out _ _ (by omega)]
  simp only [key, Nat.zero_add, Nat.add_zero, Nat.sub_zero]
theorem own_keep {w w' : World} {B : Nat} {e : TypeId} {size n : Nat} {v : Value} {xs : List Value} (h : w.ownsRow B e size v n xs) (hk : ∀ k o, B ≤ k → w.heap[k]? = some o → w'.heap[k]? = some o) : w'.ownsRow B e size v n xs := by
  obtain ⟨hl, h1 | ⟨g, cap, cur, rfl, hb, hh, h2⟩⟩ := h
  · exact ⟨hl, .inl h1⟩
  · exact ⟨hl, .inr ⟨g, cap, cur, rfl, hb, hk g _ hb hh, h2⟩⟩
theorem own_below {w w' : World} {B : Nat} {e : TypeId} {size n : Nat} {v : Value} {xs : List Value} (h : w.ownsRow B e size v n xs) (hb : Below w.heap.size w w') : w'.ownsRow B e size v n xs :=
  own_keep h fun k _ _ hk => (hb.block k (lt_of_heap hk)).trans hk
theorem own_mono {w : World} {B B' : Nat} {e : TypeId} {size n : Nat} {v : Value} {xs : List Value} (h : w.ownsRow B e size v n xs) (hB : B' ≤ B) : w.ownsRow B' e size v n xs := by
  obtain ⟨hl, h1 | ⟨g, cap, cur, rfl, hb, hh, h2⟩⟩ := h
  · exact ⟨hl, .inl h1⟩
  · exact ⟨hl, .inr ⟨g, cap, cur, rfl, Nat.le_trans hB hb, hh, h2⟩⟩
structure Sou (w wr : World) (s : ByteArray) (acc : List Gl) (p : Pl) (pos : Nat) (gv : Value) : Prop where
  own : wr.ownsRow (w.heap.size + 2) 46 6 gv acc.length (gflat acc)
  plc : PlB wr w.heap.size p
  itr : wr.heap[w.heap.size + 1]? = some (.stringIter s pos)
  bel : Below w.heap.size w wr
  siz : w.heap.size + 2 ≤ wr.heap.size
theorem Sou.below {w wr w' : World} {s : ByteArray} {acc : List Gl} {p : Pl} {pos : Nat} {v : Value} (h : Sou w wr s acc p pos v) (hb : Below wr.heap.size wr w') : Sou w w' s acc p pos v :=
  ⟨own_below h.own hb, h.plc.below hb, (hb.block _ (by have := h.siz; omega)).trans h.itr, h.bel.trans (hb.mono h.bel.size), Nat.le_trans h.siz hb.size⟩
theorem Sou.iterAt {w wr : World} {s : ByteArray} {acc : List Gl} {p : Pl} {pos : Nat} {v : Value} (h : Sou w wr s acc p pos v) (pos' : Nat) : Sou w (wr.iterAt (w.heap.size + 1) s pos') s acc p pos' v :=
  ⟨own_keep h.own fun k _ hk he => (Lib.iterAt_other wr _ k s pos' (by omega)).trans he, (Lib.iterAt_other wr _ _ s pos' (by omega)).trans h.plc, Lib.iterAt_heap wr _ s pos pos' h.itr, Lib.below_iterAt h.bel (by omega) s pos', by rw [Lib.iterAt_size]; exact h.siz⟩
theorem Sou.more {w wr w1 : World} {s : ByteArray} {acc : List Gl} {p : Pl} {pos : Nat} {v v' : Value} {g : Gl} (h : Sou w wr s acc p pos v) (hg : wr.grownBy w1 v.ownBlock) (hown : w1.ownsRow (w.heap.size + 2) 46 6 v' (acc ++ [g]).length (gflat (acc ++ [g]))) : Sou w w1 s (acc ++ [g]) p pos v' := by
  have hrow : ∀ k, k < w.heap.size + 2 → some k ≠ v.ownBlock := by
    intro k hk
    obtain ⟨hl, ⟨rfl, _⟩ | ⟨b, cap, cur, rfl, hb, _⟩⟩ := h.own
    · simp [Value.ownBlock]
    · simp only [Value.ownBlock, ne_eq, Option.some.injEq]
      omega
  have hz := h.siz
  exact ⟨hown, (hg.block _ (by omega) (hrow _ (by omega))).trans h.plc, (hg.block _ (by omega) (hrow _ (by omega))).trans h.itr, ⟨hg.os.trans h.bel.os, hg.tape.trans h.bel.tape, hg.output.trans h.bel.output, Nat.le_trans h.bel.size hg.size, fun k hk => (hg.block k (by omega) (hrow k (by omega))).trans (h.bel.block k hk)⟩, Nat.le_trans h.siz hg.size⟩
theorem Sou.place {w wr : World} {s : ByteArray} {acc : List Gl} {p p' : Pl} {pos : Nat} {v : Value} (h : Sou w wr s acc p pos v) : Sou w ((((wr.setCell ⟨w.heap.size, 0, none⟩ (.int .i64 p'.b)).setCell ⟨w.heap.size, 1, none⟩ (.int .i64 p'.g)).setCell ⟨w.heap.size, 2, none⟩ (.int .i64 p'.l)).setCell ⟨w.heap.size, 3, none⟩ (.int .i64 p'.c)) s acc p' pos v := by
  have ho : ∀ k, k ≠ w.heap.size → ((((wr.setCell ⟨w.heap.size, 0, none⟩ (.int .i64 p'.b)).setCell ⟨w.heap.size, 1, none⟩ (.int .i64 p'.g)).setCell ⟨w.heap.size, 2, none⟩ (.int .i64 p'.l)).setCell ⟨w.heap.size, 3, none⟩ (.int .i64 p'.c)).heap[k]? = wr.heap[k]? := by
    intro k hk
    rw [heap_setCell_other _ ⟨w.heap.size, 3, none⟩ k _ hk, heap_setCell_other _ ⟨w.heap.size, 2, none⟩ k _ hk, heap_setCell_other _ ⟨w.heap.size, 1, none⟩ k _ hk, heap_setCell_other _ ⟨w.heap.size, 0, none⟩ k _ hk]
  have hsz : ((((wr.setCell ⟨w.heap.size, 0, none⟩ (.int .i64 p'.b)).setCell ⟨w.heap.size, 1, none⟩ (.int .i64 p'.g)).setCell ⟨w.heap.size, 2, none⟩ (.int .i64 p'.l)).setCell ⟨w.heap.size, 3, none⟩ (.int .i64 p'.c)).heap.size = wr.heap.size := by simp [World.setCell]
  refine ⟨own_keep h.own fun k _ hk he => (ho k (by omega)).trans he, ?_, (ho _ (by omega)).trans h.itr, ⟨h.bel.os, h.bel.tape, h.bel.output, by rw [hsz]; exact h.bel.size, fun k hk => (ho k (by omega)).trans (h.bel.block k hk)⟩, by rw [hsz]; exact h.siz⟩
  unfold PlB
  rw [heap_setCell_same _ _ 3 _ _ _ (heap_setCell_same _ _ 2 _ _ _ (heap_setCell_same _ _ 1 _ _ _ (heap_setCell_same _ _ 0 _ _ _ h.plc)))]
  simp
theorem own_slice {w : World} {B : Nat} {e : TypeId} {size n : Nat} {v : Value} {xs : List Value} (h : w.ownsRow B e size v n xs) : ∃ ao cap, v = .slice ao n cap := by
  obtain ⟨hl, ⟨rfl, rfl⟩ | ⟨g, cap, cur, rfl, _⟩⟩ := h
  · exact ⟨_, _, rfl⟩
  · exact ⟨_, _, rfl⟩
theorem infoG : (Tryd.prog.info? 46).map (fun i => (i.zero, i.size, i.bytes)) = some (some (.agg #[.int .i64 0, .int .i64 0, .int .i64 0, .int .i64 0, .int .i64 0, .int .i64 0]), 6, 48) := by kernel_rfl
theorem info_is {P : Program} {e : TypeId} {z : Value} {n b : Nat} (h : (P.info? e).map (fun i => (i.zero, i.size, i.bytes)) = some (some z, n, b)) : ∃ i, P.info? e = some i ∧ i.zero = some z ∧ i.size = n ∧ i.bytes = b := by
  cases hi : P.info? e with
  | none => rw [hi] at h; cases h
  | some i =>
    rw [hi] at h
    simp only [Option.map_some, Option.some.injEq, Prod.mk.injEq] at h
    exact ⟨i, rfl, h.1, h.2.1, h.2.2⟩
theorem enters_class (args : Array Value) (w : World) : (callFunc 23 args).run Tryd.prog w = .ok (.enter 23 args) w := by
  have h : (match Tryd.prog.funcs[23]? with | some fn => !(fn.name == "runtime.NumGoroutine") && fn.body.isSome | none => false) = true := by kernel_rfl
  cases hf : Tryd.prog.funcs[23]? with
  | none => rw [hf] at h; simp at h
  | some fn =>
    rw [hf] at h
    simp only [Bool.and_eq_true, Bool.not_eq_true', beq_eq_false_iff_ne] at h
    obtain ⟨h1, h2⟩ := h
    have h3 : fn.body ≠ none := by intro hb; rw [hb] at h2; simp at h2
    simp [callFunc, hf, h1, h3]
theorem step_class {ops : Array Oper} {o : Oper} {a : Act} {w : World} {K : Act → World → Prop} {Q : Exit → Act → World → Prop} {E : Prop} (hg : o.guard = none) (x : Operand) (ats : Array TypeId)
    (hop : o.op = .call { callee := .value (.func 23), args := #[x], argTypes := ats }) (c : Int) (hx : a.eval x = .int .i64 c) (hK : K (a.put o.dst (.int .i64 (gcls c))) w) :
    if Region.wanted o (yielded ops a.tmps) = true then Oper.wp Tryd.prog o a w K Q else E := by
  obtain ⟨dst, op, ty, pos, after, guard⟩ := o
  simp only at hop hg
  subst hop hg
  have hw : Region.wanted { dst, op := .call { callee := .value (.func 23), args := #[x], argTypes := ats }, type := ty, pos, after, guard := none } (yielded ops a.tmps) = true := by simp [Region.wanted]
  rw [if_pos hw]
  have e : execOp a.eval { dst, op := .call { callee := .value (.func 23), args := #[x], argTypes := ats }, type := ty, pos, after, guard := none } = callFunc 23 (#[] ++ #[x].map a.eval ++ #[]) := rfl
  unfold Oper.wp
  rw [e, enters_class]
  simp only [Oper.upon]
  have e2 : (#[] ++ #[x].map a.eval ++ #[] : Array Value) = #[.int .i64 c] := by simp [hx]
  rw [e2]
  refine (gcls_any w c).mono ?_
  rintro r w' ⟨rfl, rfl⟩
  exact hK
set_option maxRecDepth 20000 in
set_option maxHeartbeats 2000000 in
theorem sound_any (w : World) (s : ByteArray) (hT : Tabs w) (hs : s.size ≤ 4096) :
    Calls Tryd.prog 27 #[.string s] w fun r w' => ∃ gs e v, Snd s pl0 gs e ∧ r = .returned (.tuple #[v, e.v]) ∧ w'.ownsRow (w.heap.size + 2) 46 6 v gs.length (gflat gs) ∧ Below w.heap.size w w' := by
  go_enter Tryd.func27, Tryd.ntmps27
  go_wp2
  have hS0 : Sou w ((w.alloc (.cells #[.int .i64 0, .int .i64 0, .int .i64 1, .int .i64 1] 25)).iter s 0) s [] pl0 0 (.slice none 0 0) := by
    refine ⟨World.ownsRow_nil _ _ _ _, ?_, ?_, ?_, ?_⟩
    · exact ((Below.refl (w.alloc _).heap.size (w.alloc _)).alloc (Nat.le_refl _) (.stringIter s 0)).block w.heap.size (by simp [World.size_alloc]) |>.trans (heap_alloc_new w _)
    · have := World.iter_heap (w.alloc (.cells #[.int .i64 0, .int .i64 0, .int .i64 1, .int .i64 1] 25)) s 0
      rw [World.size_alloc] at this
      exact this
    · exact ((Below.refl _ _).alloc (Nat.le_refl _) _).alloc (by simp [World.size_alloc]) (.stringIter s 0)
    · show w.heap.size + 2 ≤ ((w.alloc _).alloc (.stringIter s 0)).heap.size
      simp [World.size_alloc]
  generalize (w.alloc (.cells #[.int .i64 0, .int .i64 0, .int .i64 1, .int .i64 1] 25)).iter s 0 = w0 at hS0 ⊢
  have HS0 := hide hS0
  have HT := hide hT
  clear hS0 hT
  go_loopw [2] (fun gv wr => ∃ (acc : List Gl) (p : Pl) (ao : Option Addr) (cap : Nat), gv = .slice ao acc.length cap ∧ Sou w wr s acc p p.b (.slice ao acc.length cap) ∧ p.ok ∧ p.b ≤ s.size ∧ acc.length ≤ p.b ∧ ∀ gs e, Snd s p gs e → Snd s pl0 (acc ++ gs) e) (fun _ wr => s.size - wr.iterPos (w.heap.size + 1))
  case atStart => exact ⟨[], pl0, none, 0, rfl, HS0.out, pl0_ok, Nat.zero_le _, Nat.zero_le _, fun gs e h => h⟩
  case round =>
    obtain ⟨acc, p, ao, cap, rfl, hS, hp, hpb, hal, hpre⟩ := hrel
    have HS := hide hS
    have HP := hide hp
    have HE := hide hpre
    have IP : Hid (wr.iterPos (w.heap.size + 1) = p.b) := by show _ = _; unfold World.iterPos; rw [hS.itr]
    clear hS hp hpre
    by_cases hlt : p.b < s.size
    · have hnext := fun ty => Lib.run_next_any_at (P := Tryd.prog) wr (w.heap.size + 1) s p.b ty HS.out.itr hlt
      have hd := dec_le s p.b hlt
      have htop := dec_top s p.b
      have HDG := hide (decodeGo_at s p.b hlt)
      have HS1 := hide (HS.out.iterAt (p.b + (Utf8.decode s p.b).2))
      have HSG := hide (fun gs e => Snd.go p gs e hlt)
      generalize hdc : Utf8.decode s p.b = dc at *
      have HDC := hide hdc
      clear hdc
      obtain ⟨c, z⟩ := dc
      simp only at hd htop hnext
      generalize wr.iterAt (w.heap.size + 1) s (p.b + z) = w1 at HS1 hnext
      have hlt' : (p.b : Int) < (s.size : Int) := by omega
      go_wp2_with fail
      refine (decode_any _ _ (HT.out.below HS1.out.bel)).mono ?_
      rintro r w2 ⟨rfl, hb2⟩
      rw [HDG.out]
      have HS2 := hide (HS1.out.below hb2)
      clear hb2 hnext HS1
      by_cases hbad : (c, z) = (65533, 1)
      · obtain ⟨rfl, rfl⟩ := Prod.mk.inj hbad
        obtain ⟨hf, p0, p1, p2, p3⟩ := HS2.out.plc.cells
        have f0 := frozen_of_row w2 w.heap.size 0 _ _ HS2.out.plc
        have f1 := frozen_of_row w2 w.heap.size 1 _ _ HS2.out.plc
        have f2 := frozen_of_row w2 w.heap.size 2 _ _ HS2.out.plc
        have f3 := frozen_of_row w2 w.heap.size 3 _ _ HS2.out.plc
        go_wp2_with fail
        go_region
        go_wp2
        refine bodyPost_ret (v := _) (by simp [results, Tryd.results27, go_sem, p0, p1, p2, p3]; try rfl) rfl ⟨acc, p, _, ?_, rfl, ((HS2.out.place (p' := p)).below (by (repeat' (first | (with_reducible exact Below.refl _ _) | (with_reducible assumption) | (with_reducible refine gdrewN ?_ _) | (with_reducible refine Below.alloc ?_ ?_ _) | (with_reducible refine Below.drew ?_) | (with_reducible refine Below.setCell ?_ ?_ _) | go_size)))).own, ((HS2.out.place (p' := p)).below (by (repeat' (first | (with_reducible exact Below.refl _ _) | (with_reducible assumption) | (with_reducible refine gdrewN ?_ _) | (with_reducible refine Below.alloc ?_ ?_ _) | (with_reducible refine Below.drew ?_) | (with_reducible refine Below.setCell ?_ ?_ _) | go_size)))).bel⟩
        have := HE.out [] p (.stop p (.inr ⟨hlt, HDC.out⟩))
        rwa [List.append_nil] at this
      · by_cases h1 : c = 65533
        · subst h1
          have e2 : ((z : Int) == 1) = false := beq_eq_false_iff_ne.2 (by intro hz; exact hbad (by rw [show z = 1 from by omega]))
          obtain ⟨i0, hi0, hz0, hz1, hz2⟩ := info_is infoG
          obtain ⟨hf, p0, p1, p2, p3⟩ := HS2.out.plc.cells
          have hown := HS2.out.own
          have hsz := HS2.out.siz
          have hone : ∀ u ∈ ([.int .i64 65533, .int .i64 (gcls 65533), .int .i64 p.b, .int .i64 p.g, .int .i64 p.l, .int .i64 p.c] : List Value), u.oneCell' = true := by
            intro u hu
            simp only [List.mem_cons, List.not_mem_nil, or_false] at hu
            rcases hu with rfl | rfl | rfl | rfl | rfl | rfl <;> rfl
          go_wp2_with fail
          go_region_law (first | (refine step_class rfl (.tmp 35) #[3] rfl (65533 : Int) (by simp [Act.eval, Act.put]) ?_) | (refine step_append_lies _ rfl (.tmp 33) (.tmp 39) 42 rfl (w.heap.size + 2) 46 i0 _ 6 48 Tryd.underlying42 hi0 hz0 hz1 hz2 rfl (by decide) (.slice ao acc.length cap) acc.length (gflat acc) (by simp [Act.eval]) (own_below hown ((Below.refl _ _).alloc (Nat.le_refl _) _).drew) ⟨w2.heap.size, 0, none⟩ 1 1 [.int .i64 65533, .int .i64 (gcls 65533), .int .i64 p.b, .int .i64 p.g, .int .i64 p.l, .int .i64 p.c] (by simp [Act.eval]) rfl (World.news_of_block (w := (w2.alloc (.cells #[.int .i64 65533, .int .i64 (gcls 65533), .int .i64 p.b, .int .i64 p.g, .int .i64 p.l, .int .i64 p.c] 46)).drew) (heap_alloc_new w2 _)) hone (by omega) (by unfold maxLen; omega) (by omega) (by simp; omega) _ rfl ?_; intro g1 cap1 w3 hown3 hgrow3 hat3 hlt3))
          all_goals
            have HS3 := hide ((HS2.out.below (((Below.refl _ _).alloc (Nat.le_refl _) _).drew)).more (g := ⟨65533, p⟩) hgrow3 (by simpa [gflat_append, gflat] using hown3))
            clear hown3 hgrow3 hat3 hlt3 p0 p1 p2 p3 hf hown hsz hone hi0 hz0 hz1 hz2
            obtain ⟨hf, p0, p1, p2, p3⟩ := HS3.out.plc.cells
            go_wp2_with fail
            refine (behind_any w3 p 65533 z (by have := HP.out.g; have := HP.out.l; have := HP.out.c; omega)).mono ?_
            rintro r w4 ⟨rfl, hb4⟩
            have HS4 := hide (HS3.out.below hb4)
            clear hb4 p0 p1 p2 p3 hf HS3 HS2
            generalize hpp : p.past 65533 z = p' at HS4 ⊢
            have HPP := hide hpp
            clear hpp
            unfold Pl.v
            obtain ⟨hf, p0, p1, p2, p3⟩ := HS4.out.plc.cells
            have f0 := frozen_of_row w4 w.heap.size 0 _ _ HS4.out.plc
            have f1 := frozen_of_row w4 w.heap.size 1 _ _ HS4.out.plc
            have f2 := frozen_of_row w4 w.heap.size 2 _ _ HS4.out.plc
            have f3 := frozen_of_row w4 w.heap.size 3 _ _ HS4.out.plc
            have IP4 := hide ((HS4.out.place (p' := p')).itr)
            go_wp2
            go_roundw
            case rel =>
              have hb' : p'.b = p.b + z := by rw [← HPP.out]; rfl
              refine ⟨acc ++ [⟨65533, p⟩], p', some ⟨g1, 0, none⟩, cap1, by simp, ?_, by rw [← HPP.out]; exact HP.out.past _ _ hd.1, by omega, by simp; omega, ?_⟩
              · have := HS4.out.place (p' := p')
                rw [← hb'] at this
                simpa using this
              · intro gs e h
                rw [List.append_assoc]
                refine HE.out _ _ ?_
                exact HSG.out gs e hbad (by rw [← HPP.out] at h; exact h)
            case measure =>
              rw [IP.out]
              unfold World.iterPos
              rw [IP4.out]
              simp only
              omega
        · have e1 : ((c : Int) == 65533) = false := beq_eq_false_iff_ne.2 (by omega)
          obtain ⟨i0, hi0, hz0, hz1, hz2⟩ := info_is infoG
          obtain ⟨hf, p0, p1, p2, p3⟩ := HS2.out.plc.cells
          have hown := HS2.out.own
          have hsz := HS2.out.siz
          have hone : ∀ u ∈ ([.int .i64 c, .int .i64 (gcls c), .int .i64 p.b, .int .i64 p.g, .int .i64 p.l, .int .i64 p.c] : List Value), u.oneCell' = true := by
            intro u hu
            simp only [List.mem_cons, List.not_mem_nil, or_false] at hu
            rcases hu with rfl | rfl | rfl | rfl | rfl | rfl <;> rfl
          go_wp2_with fail
          go_region_law (first | (refine step_class rfl (.tmp 35) #[3] rfl (c : Int) (by simp [Act.eval, Act.put]) ?_) | (refine step_append_lies _ rfl (.tmp 33) (.tmp 39) 42 rfl (w.heap.size + 2) 46 i0 _ 6 48 Tryd.underlying42 hi0 hz0 hz1 hz2 rfl (by decide) (.slice ao acc.length cap) acc.length (gflat acc) (by simp [Act.eval]) (own_below hown ((Below.refl _ _).alloc (Nat.le_refl _) _).drew) ⟨w2.heap.size, 0, none⟩ 1 1 [.int .i64 c, .int .i64 (gcls c), .int .i64 p.b, .int .i64 p.g, .int .i64 p.l, .int .i64 p.c] (by simp [Act.eval]) rfl (World.news_of_block (w := (w2.alloc (.cells #[.int .i64 c, .int .i64 (gcls c), .int .i64 p.b, .int .i64 p.g, .int .i64 p.l, .int .i64 p.c] 46)).drew) (heap_alloc_new w2 _)) hone (by omega) (by unfold maxLen; omega) (by omega) (by simp; omega) _ rfl ?_; intro g1 cap1 w3 hown3 hgrow3 hat3 hlt3))
          all_goals
            have HS3 := hide ((HS2.out.below (((Below.refl _ _).alloc (Nat.le_refl _) _).drew)).more (g := ⟨c, p⟩) hgrow3 (by simpa [gflat_append, gflat] using hown3))
            clear hown3 hgrow3 hat3 hlt3 p0 p1 p2 p3 hf hown hsz hone hi0 hz0 hz1 hz2
            obtain ⟨hf, p0, p1, p2, p3⟩ := HS3.out.plc.cells
            go_wp2_with fail
            refine (behind_any w3 p c z (by have := HP.out.g; have := HP.out.l; have := HP.out.c; omega)).mono ?_
            rintro r w4 ⟨rfl, hb4⟩
            have HS4 := hide (HS3.out.below hb4)
            clear hb4 p0 p1 p2 p3 hf HS3 HS2
            generalize hpp : p.past c z = p' at HS4 ⊢
            have HPP := hide hpp
            clear hpp
            unfold Pl.v
            obtain ⟨hf, p0, p1, p2, p3⟩ := HS4.out.plc.cells
            have f0 := frozen_of_row w4 w.heap.size 0 _ _ HS4.out.plc
            have f1 := frozen_of_row w4 w.heap.size 1 _ _ HS4.out.plc
            have f2 := frozen_of_row w4 w.heap.size 2 _ _ HS4.out.plc
            have f3 := frozen_of_row w4 w.heap.size 3 _ _ HS4.out.plc
            have IP4 := hide ((HS4.out.place (p' := p')).itr)
            go_wp2
            go_roundw
            case rel =>
              have hb' : p'.b = p.b + z := by rw [← HPP.out]; rfl
              refine ⟨acc ++ [⟨c, p⟩], p', some ⟨g1, 0, none⟩, cap1, by simp, ?_, by rw [← HPP.out]; exact HP.out.past _ _ hd.1, by omega, by simp; omega, ?_⟩
              · have := HS4.out.place (p' := p')
                rw [← hb'] at this
                simpa using this
              · intro gs e h
                rw [List.append_assoc]
                refine HE.out _ _ ?_
                exact HSG.out gs e hbad (by rw [← HPP.out] at h; exact h)
            case measure =>
              rw [IP.out]
              unfold World.iterPos
              rw [IP4.out]
              simp only
              omega
    · have hnext := fun ty => Lib.run_next_end_at (P := Tryd.prog) wr (w.heap.size + 1) s p.b ty HS.out.itr (by omega)
      obtain ⟨hf, p0, p1, p2, p3⟩ := HS.out.plc.cells
      have f0 := frozen_of_row wr w.heap.size 0 _ _ HS.out.plc
      have f1 := frozen_of_row wr w.heap.size 1 _ _ HS.out.plc
      have f2 := frozen_of_row wr w.heap.size 2 _ _ HS.out.plc
      have f3 := frozen_of_row wr w.heap.size 3 _ _ HS.out.plc
      have hlt' : ¬ (p.b : Int) < (s.size : Int) := by omega
      go_wp2_with fail
      go_region
      go_wp2
      refine bodyPost_ret (v := _) (by simp [results, Tryd.results27, go_sem, p0, p1, p2, p3]; try rfl) rfl ⟨acc, p, _, ?_, rfl, ((HS.out.place (p' := p)).below (by (repeat' (first | (with_reducible exact Below.refl _ _) | (with_reducible assumption) | (with_reducible refine gdrewN ?_ _) | (with_reducible refine Below.alloc ?_ ?_ _) | (with_reducible refine Below.drew ?_) | (with_reducible refine Below.setCell ?_ ?_ _) | go_size)))).own, ((HS.out.place (p' := p)).below (by (repeat' (first | (with_reducible exact Below.refl _ _) | (with_reducible assumption) | (with_reducible refine gdrewN ?_ _) | (with_reducible refine Below.alloc ?_ ?_ _) | (with_reducible refine Below.drew ?_) | (with_reducible refine Below.setCell ?_ ?_ _) | go_size)))).bel⟩
      have := HE.out [] p (.stop p (.inl (by omega)))
      rwa [List.append_nil] at this
end Lm
end Go.Proofs.YtgfglefgpgckiaaDoor

namespace Go.Proofs.YtgfglefgpgckiaaDoor
namespace Lm
open Go Go.RowKit
def TokO (w w' : World) (q : Nat) (s : ByteArray) (v : Value) (gs : List Gl) (i : Nat) (e : Pl) (r : Ending) : TO → Prop
  | .bad k => k ≠ 0 ∧ r = .returned (.tuple #[tok0, .int .i64 k]) ∧ Tq w w' q
  | .ok kind text rest => r = .returned (.tuple #[.agg #[.int .i64 kind, .string text, .int .i64 0, .int .i64 0, .int .i64 0, .int .i64 0], .int .i64 0]) ∧ Tq w w' q ∧ ∃ j, i < j ∧ gs.drop j = rest ∧ Scn w' q s v gs j e
structure TokV (w w' : World) (q : Nat) (s : ByteArray) (v : Value) (gs : List Gl) (i : Nat) (e : Pl) (kd : Int) (tx : ByteArray) (k : Int) (o : TO) : Prop where
  out : TokO w w' q s v gs i e (.returned (.tuple #[.agg #[.int .i64 kd, .string tx, .int .i64 0, .int .i64 0, .int .i64 0, .int .i64 0], .int .i64 k])) o
theorem TokO.v {w w' : World} {q : Nat} {s : ByteArray} {v : Value} {gs : List Gl} {i : Nat} {e : Pl} {r : Ending} {o : TO} (h : TokO w w' q s v gs i e r o) : ∃ (kd : Int) (tx : ByteArray) (k : Int), r = .returned (.tuple #[.agg #[.int .i64 kd, .string tx, .int .i64 0, .int .i64 0, .int .i64 0, .int .i64 0], .int .i64 k]) ∧ TokV w w' q s v gs i e kd tx k o := by
  cases o with
  | bad k => exact ⟨_, _, _, h.2.1, ⟨h.1, rfl, h.2.2⟩⟩
  | ok kind text rest => exact ⟨_, _, _, h.1, ⟨rfl, h.2⟩⟩
theorem TokV.six {w w1 w' : World} {q f : Nat} {s : ByteArray} {v : Value} {gs : List Gl} {i : Nat} {e : Pl} {kd : Int} {tx : ByteArray} {k : Int} {o : TO} (h : TokV w1 w' q s v gs i e kd tx k o) (h0 : Scn w q s v gs i e) (hb : Below w.heap.size w w1) (hf : w.heap.size ≤ f) (hqf : q ≠ f) (u0 u1 u2 u3 u4 u5 : Value) :
    TokO w ((((((w'.setCell ⟨f, 0, none⟩ u0).setCell ⟨f, 1, none⟩ u1).setCell ⟨f, 2, none⟩ u2).setCell ⟨f, 3, none⟩ u3).setCell ⟨f, 4, none⟩ u4).setCell ⟨f, 5, none⟩ u5) q s v gs i e (.returned (.tuple #[.agg #[.int .i64 kd, .string tx, .int .i64 0, .int .i64 0, .int .i64 0, .int .i64 0], .int .i64 k])) o := by
  obtain ⟨h⟩ := h
  cases o with
  | bad c => exact ⟨h.1, h.2.1, ((Tq.of_below hb).trans h.2.2).six hf _ _ _ _ _ _⟩
  | ok kind text rest =>
    obtain ⟨h1, h2, j, h3, h4, h5⟩ := h
    exact ⟨h1, ((Tq.of_below hb).trans h2).six hf _ _ _ _ _ _, j, h3, h4, h0.of_tq (((Tq.of_below hb).trans h2).six hf _ _ _ _ _ _) ((six_other _ _ _ hqf _ _ _ _ _ _).trans h5.blk) h5.le⟩
theorem dropWhile_len {α : Type} (p : α → Bool) (l : List α) : (l.dropWhile p).length ≤ l.length := by
  induction l with
  | nil => simp
  | cons a l ih =>
    by_cases h : p a = true
    · rw [List.dropWhile_cons_of_pos h]; simp; omega
    · rw [List.dropWhile_cons_of_neg h]; simp
theorem dropWhile_lt {α : Type} {p : α → Bool} {a : α} {l : List α} (h : p a = true) : ((a :: l).dropWhile p).length < (a :: l).length := by
  rw [List.dropWhile_cons_of_pos h]
  have := dropWhile_len p l
  simp
  omega
theorem drop_lt {gs : List Gl} {i j : Nat} (hi : i < gs.length) (h : (gs.drop j).length < (gs.drop i).length) : i < j := by
  simp at h
  omega
theorem name_t (w : World) (q : Nat) (s : ByteArray) (v : Value) (gs : List Gl) (i : Nat) (e : Pl) (h : Scn w q s v gs i e) (hn : gs.length ≤ 100000) (hQ : Snd s pl0 gs e) (hs : s.size ≤ 4096) (g : Gl) (hd : gs.drop i = g :: gs.drop (i + 1)) (hc : gcls g.code = 2) :
    Calls Tryd.prog 50 #[.pointer (some ⟨q, 0, none⟩)] w fun r w' => ∃ o, TokR s e g (gs.drop (i + 1)) o ∧ TokO w w' q s v gs i e r o := by
  refine (name_any w q s v gs i e h hn hQ (by omega)).mono ?_
  rintro r w' ⟨j, hij, hdj, hS, hT, hr⟩
  have hlt : i < gs.length := by
    apply Classical.byContradiction
    intro hh
    rw [List.drop_eq_nil_of_le (by omega)] at hd
    cases hd
  have hjl := hS.le
  have hl : (g :: gs.drop (i + 1)).length - ((g :: gs.drop (i + 1)).dropWhile (inC [2, 3, 4])).length = j - i := by
    rw [← hd, ← hdj]
    simp
    omega
  have hj : i < j := by
    refine drop_lt hlt ?_
    rw [hdj, hd]
    exact dropWhile_lt (by simp [inC, hc])
  refine ⟨_, tokR_name hc, ?_⟩
  rw [hl]
  rw [hd] at hdj
  rcases hr with ⟨h1, rfl⟩ | ⟨h1, rfl⟩
  · rw [if_pos h1]; exact ⟨by omega, rfl, hT⟩
  · rw [if_neg (by omega), hd, hdj]
    exact ⟨rfl, hT, j, hj, hdj, hS⟩
theorem number_t (w : World) (q : Nat) (s : ByteArray) (v : Value) (gs : List Gl) (i : Nat) (e : Pl) (h : Scn w q s v gs i e) (hn : gs.length ≤ 100000) (hQ : Snd s pl0 gs e) (hs : s.size ≤ 4096) (g : Gl) (hd : gs.drop i = g :: gs.drop (i + 1)) (hc : gcls g.code = 3) :
    Calls Tryd.prog 51 #[.pointer (some ⟨q, 0, none⟩)] w fun r w' => ∃ o, TokR s e g (gs.drop (i + 1)) o ∧ TokO w w' q s v gs i e r o := by
  have hlt : i < gs.length := by
    apply Classical.byContradiction
    intro hh
    rw [List.drop_eq_nil_of_le (by omega)] at hd
    cases hd
  have hin : inC [3] g = true := by simp [inC, hc]
  refine (number_any w q s v gs i e h hn hQ hs ?_).mono ?_
  · have hD := hQ.drop pl0_ok (Nat.zero_le _) i h.le
    rw [hd, List.dropWhile_cons_of_pos hin]
    obtain ⟨m, hm, hml⟩ : ∃ m, (gs.drop (i + 1)).dropWhile (inC [3]) = (gs.drop i).drop m ∧ 1 ≤ m ∧ m ≤ (gs.drop i).length := by
      refine ⟨(gs.drop i).length - ((gs.drop (i + 1)).dropWhile (inC [3])).length, ?_, ?_, ?_⟩
      · have key : ∀ (l : List Gl), l.dropWhile (inC [3]) = l.drop (l.length - (l.dropWhile (inC [3])).length) := by
          intro l
          induction l with
          | nil => rfl
          | cons a l ih =>
            by_cases ha : inC [3] a = true
            · rw [List.dropWhile_cons_of_pos ha]
              have := dropWhile_len (inC [3]) l
              rw [show (a :: l).length - (l.dropWhile (inC [3])).length = (l.length - (l.dropWhile (inC [3])).length) + 1 from by simp; omega, List.drop_succ_cons]
              exact ih
            · rw [List.dropWhile_cons_of_neg ha]; simp
        have := key (gs.drop i)
        rw [hd, List.dropWhile_cons_of_pos hin] at this
        rw [hd]
        exact this
      · have := dropWhile_len (inC [3]) (gs.drop (i + 1)); simp at this ⊢; omega
      · omega
    have h2 := hD.1.drop hD.2.1 hD.2.2.2.1 m hml.2
    rw [hm]
    rw [hd] at h2 ⊢
    have h3 := h2.2.2.1
    omega
  rintro r w' ⟨j, hij, hdj, hS, hT, n, ds, hn1, hds, hr⟩
  have hj : i < j := by
    refine drop_lt hlt ?_
    rw [hdj, hd]
    exact dropWhile_lt hin
  rw [hd] at hdj hn1 hds
  rw [hdj] at hn1 hds
  refine ⟨_, tokR_num hc hn1 hds, ?_⟩
  rcases hr with ⟨h1, rfl⟩ | ⟨h1, rfl⟩
  · rw [if_pos h1]; exact ⟨by omega, rfl, hT⟩
  · rw [if_neg (by omega)]
    exact ⟨rfl, hT, j, hj, hdj, hS⟩
theorem fold_of {g : Gl} (h : gcls g.code = 5) : gsign (gfold g.code) := by
  apply Classical.byContradiction
  intro hn
  unfold gcls at h
  repeat' split at h
  all_goals first | contradiction | omega
theorem sign_t (w : World) (q : Nat) (s : ByteArray) (v : Value) (gs : List Gl) (i : Nat) (e : Pl) (h : Scn w q s v gs i e) (hn : gs.length ≤ 100000) (g : Gl) (hg : gs[i]? = some g) (hc : gcls g.code = 5) :
    Calls Tryd.prog 52 #[.pointer (some ⟨q, 0, none⟩)] w fun r w' => ∃ o, TokR s e g (gs.drop (i + 1)) o ∧ TokO w w' q s v gs i e r o := by
  have hs := fold_of hc
  suffices H : Calls Tryd.prog 52 #[.pointer (some ⟨q, 0, none⟩)] w fun r w' => TokO w w' q s v gs i e r (signS (gfold g.code) (gs.drop (i + 1))) from H.mono (fun r w' h => ⟨_, tokR_sign hc, h⟩)
  generalize hcc : gfold g.code = c at hs ⊢
  unfold signS
  by_cases c1 : c = 8788
  · rw [if_pos c1]
    refine (sign_becomes w q s v gs i e h hn g hg c hcc c1).mono ?_
    rintro r w' ⟨hS, hT, rfl⟩
    exact ⟨rfl, hT, i + 1, by omega, rfl, hS⟩
  · rw [if_neg c1]
    by_cases c2 : c = 8800
    · rw [if_pos c2]
      refine (sign_unlike w q s v gs i e h hn g hg c hcc c2).mono ?_
      rintro r w' ⟨hS, hT, rfl⟩
      exact ⟨rfl, hT, i + 1, by omega, rfl, hS⟩
    · rw [if_neg c2]
      by_cases c3 : c = 58 ∨ c = 33
      · rw [if_pos c3]
        by_cases hl : i + 1 < gs.length
        · rw [List.drop_eq_getElem_cons hl]
          simp only
          have hg2 : gs[i + 1]? = some (gs[i + 1]'hl) := List.getElem?_eq_getElem hl
          by_cases h61 : (gs[i + 1]'hl).code = 61
          · rw [if_pos h61]
            rcases c3 with c3 | c3
            · rw [c3] at hcc ⊢
              refine (sign_colon w q s v gs i e h hn g hg 58 hcc rfl _ hg2 h61).mono ?_
              rintro r w' ⟨hS, hT, rfl⟩
              exact ⟨rfl, hT, i + 2, by omega, rfl, hS⟩
            · rw [c3] at hcc ⊢
              refine (sign_bang w q s v gs i e h hn g hg 33 hcc rfl _ hg2 h61).mono ?_
              rintro r w' ⟨hS, hT, rfl⟩
              exact ⟨rfl, hT, i + 2, by omega, rfl, hS⟩
          · rw [if_neg h61]
            rcases c3 with c3 | c3
            · refine (sign_colon_other w q s v gs i e h hn g hg c hcc c3 _ hg2 h61).mono ?_
              rintro r w' ⟨hS, hT, rfl⟩
              exact ⟨by omega, rfl, hT⟩
            · refine (sign_bang_other w q s v gs i e h hn g hg c hcc c3 _ hg2 h61).mono ?_
              rintro r w' ⟨hS, hT, rfl⟩
              exact ⟨by omega, rfl, hT⟩
        · rw [List.drop_eq_nil_of_le (by omega)]
          simp only
          rcases c3 with c3 | c3
          · refine (sign_colon_none w q s v gs i e h hn g hg c hcc c3 (by omega)).mono ?_
            rintro r w' ⟨hS, hT, rfl⟩
            exact ⟨by omega, rfl, hT⟩
          · refine (sign_bang_none w q s v gs i e h hn g hg c hcc c3 (by omega)).mono ?_
            rintro r w' ⟨hS, hT, rfl⟩
            exact ⟨by omega, rfl, hT⟩
      · rw [if_neg c3]
        refine (sign_one w q s v gs i e h hn g hg c hcc ?_ (by omega) (by omega)).mono ?_
        · unfold gsign at hs; omega
        rintro r w' ⟨hS, hT, rfl⟩
        exact ⟨rfl, hT, i + 1, by omega, rfl, hS⟩
end Lm
end Go.Proofs.YtgfglefgpgckiaaDoor

namespace Go.Proofs.YtgfglefgpgckiaaDoor
namespace Lm
open Go Go.RowKit
theorem TokV.tq {w w' : World} {q : Nat} {s : ByteArray} {v : Value} {gs : List Gl} {i : Nat} {e : Pl} {kd : Int} {tx : ByteArray} {k : Int} {o : TO} (h : TokV w w' q s v gs i e kd tx k o) : Tq w w' q := by
  obtain ⟨h⟩ := h
  cases o with
  | bad c => exact h.2.2
  | ok kind text rest => exact h.2.1
set_option maxRecDepth 20000 in
set_option maxHeartbeats 1000000 in
theorem token_any (w : World) (q : Nat) (s : ByteArray) (v : Value) (gs : List Gl) (i : Nat) (e : Pl) (h : Scn w q s v gs i e) (hn : gs.length ≤ 100000) (hQ : Snd s pl0 gs e) (hs : s.size ≤ 4096) (g : Gl) (hg : gs[i]? = some g) :
    Calls Tryd.prog 30 #[.pointer (some ⟨q, 0, none⟩)] w fun r w' => ∃ o, TokR s e g (gs.drop (i + 1)) o ∧ TokO w w' q s v gs i e r o := by
  have H := hide h
  have hi : i < gs.length := (List.getElem?_eq_some_iff.1 hg).1
  have hd : gs.drop i = g :: gs.drop (i + 1) := by
    rw [List.drop_eq_getElem_cons hi]
    congr 1
    rw [List.getElem?_eq_getElem hi] at hg
    exact Option.some.inj hg
  have HD := hide hd
  obtain ⟨ao, cap, rfl⟩ := h.gls.isSlice
  obtain ⟨b, off, rfl, hG⟩ := h.gls.glyph hg
  obtain ⟨hq, k0, k1, k2, k3, k4, k5, k6⟩ := h.cells
  obtain ⟨hb, g0, g1, g2, g3, g4, g5⟩ := hG
  have hi' : (i : Int) < (gs.length : Int) := by omega
  have HGI := hide hg
  clear h k0 k3 k4 k5 k6 g0 g2 g3 g4 g5 hd hg
  go_enter Tryd.func30, Tryd.ntmps30
  go_wp2_with fail
  go_quiet (fail)
  have hbq : Below w.heap.size w ((w.alloc (.cells #[.int .i64 0, .string ⟨#[]⟩, .int .i64 0, .int .i64 0, .int .i64 0, .int .i64 0] 35)).drewN nq) := by (repeat' (first | (with_reducible exact Below.refl _ _) | (with_reducible assumption) | (with_reducible refine gdrewN ?_ _) | (with_reducible refine Below.alloc ?_ ?_ _) | (with_reducible refine Below.drew ?_) | (with_reducible refine Below.setCell ?_ ?_ _) | go_size))
  have HB := hide hbq
  have HS1 := hide (H.out.below hbq)
  have HT1 : Hid (Tk0B ((w.alloc (.cells #[.int .i64 0, .string ⟨#[]⟩, .int .i64 0, .int .i64 0, .int .i64 0, .int .i64 0] 35)).drewN nq) w.heap.size) := heap_alloc_new w _
  clear hbq k1 k2 g1 hb hi'
  generalize (w.alloc (.cells #[.int .i64 0, .string ⟨#[]⟩, .int .i64 0, .int .i64 0, .int .i64 0, .int .i64 0] 35)).drewN nq = w1 at HB HS1 HT1 ⊢
  generalize hf : w.heap.size = f at *
  have hqf : q ≠ f := by omega
  have hfq : f ≠ q := by omega
  replace HB : Hid (Below w.heap.size w w1) := by rw [hf]; exact HB
  replace hf : w.heap.size ≤ f := by omega
  clear hq
  by_cases hc2 : gcls g.code = 2
  · have n2 : (gcls g.code == 2) = true := by rw [hc2]; rfl
    go_wp2_with fail
    refine (name_t _ q s _ gs i e HS1.out hn hQ hs g HD.out hc2).mono ?_
    rintro r w2 ⟨o, ho, hO⟩
    obtain ⟨kd, tx, k, rfl, hV⟩ := hO.v
    have HV := hide hV
    have HR := hide ho
    have HT0 := hide (HT1.out.tq (hV.tq) hfq)
    clear hO hV ho
    obtain ⟨hfl, t0, t1, t2, t3, t4, t5, f0, f1, f2, f3, f4, f5⟩ := HT0.out.cells
    go_wp2
    refine bodyPost_ret (v := _) (by simp [results, Tryd.results30, go_sem, t0, t1, t2, t3, t4, t5]; try rfl) rfl ⟨o, HR.out, ?_⟩
    exact HV.out.six H.out HB.out hf hqf _ _ _ _ _ _
  by_cases hc3 : gcls g.code = 3
  · have n2 : (gcls g.code == 2) = false := beq_eq_false_iff_ne.2 hc2
    have n3 : (gcls g.code == 3) = true := by rw [hc3]; rfl
    go_wp2_with fail
    refine (number_t _ q s _ gs i e HS1.out hn hQ hs g HD.out hc3).mono ?_
    rintro r w2 ⟨o, ho, hO⟩
    obtain ⟨kd, tx, k, rfl, hV⟩ := hO.v
    have HV := hide hV
    have HR := hide ho
    have HT0 := hide (HT1.out.tq (hV.tq) hfq)
    clear hO hV ho
    obtain ⟨hfl, t0, t1, t2, t3, t4, t5, f0, f1, f2, f3, f4, f5⟩ := HT0.out.cells
    go_wp2
    refine bodyPost_ret (v := _) (by simp [results, Tryd.results30, go_sem, t0, t1, t2, t3, t4, t5]; try rfl) rfl ⟨o, HR.out, ?_⟩
    exact HV.out.six H.out HB.out hf hqf _ _ _ _ _ _
  by_cases hc5 : gcls g.code = 5
  · have n2 : (gcls g.code == 2) = false := beq_eq_false_iff_ne.2 hc2
    have n3 : (gcls g.code == 3) = false := beq_eq_false_iff_ne.2 hc3
    have n5 : (gcls g.code == 5) = true := by rw [hc5]; rfl
    go_wp2_with fail
    refine (sign_t _ q s _ gs i e HS1.out hn g HGI.out hc5).mono ?_
    rintro r w2 ⟨o, ho, hO⟩
    obtain ⟨kd, tx, k, rfl, hV⟩ := hO.v
    have HV := hide hV
    have HR := hide ho
    have HT0 := hide (HT1.out.tq (hV.tq) hfq)
    clear hO hV ho
    obtain ⟨hfl, t0, t1, t2, t3, t4, t5, f0, f1, f2, f3, f4, f5⟩ := HT0.out.cells
    go_wp2
    refine bodyPost_ret (v := _) (by simp [results, Tryd.results30, go_sem, t0, t1, t2, t3, t4, t5]; try rfl) rfl ⟨o, HR.out, ?_⟩
    exact HV.out.six H.out HB.out hf hqf _ _ _ _ _ _
  · have n2 : (gcls g.code == 2) = false := beq_eq_false_iff_ne.2 hc2
    have n3 : (gcls g.code == 3) = false := beq_eq_false_iff_ne.2 hc3
    have n5 : (gcls g.code == 5) = false := beq_eq_false_iff_ne.2 hc5
    obtain ⟨hfl, t0, t1, t2, t3, t4, t5, f0, f1, f2, f3, f4, f5⟩ := HT1.out.cells
    go_wp2
    refine bodyPost_ret (v := _) (by simp [results, Tryd.results30, go_sem, t0, t1, t2, t3, t4, t5]; try rfl) rfl ⟨_, tokR_other hc2 hc3 hc5, by omega, rfl, (Tq.of_below HB.out).six hf _ _ _ _ _ _⟩
end Lm
end Go.Proofs.YtgfglefgpgckiaaDoor

namespace Go.Proofs.YtgfglefgpgckiaaDoor
namespace Lm
open Go Go.RowKit
def tflat : List Tk → List Value
  | [] => []
  | t :: ts => .int .i64 t.kind :: .string t.text :: .int .i64 t.pl.b :: .int .i64 t.pl.g :: .int .i64 t.pl.l :: .int .i64 t.pl.c :: tflat ts
theorem tflat_append (es fs : List Tk) : tflat (es ++ fs) = tflat es ++ tflat fs := by
  induction es with
  | nil => rfl
  | cons e es ih => simp [tflat, ih]
def plz : Pl := ⟨0, 0, 0, 0⟩
theorem infoT : (Tryd.prog.info? 35).map (fun i => (i.zero, i.size, i.bytes)) = some (some (.agg #[.int .i64 0, .string ⟨#[]⟩, .int .i64 0, .int .i64 0, .int .i64 0, .int .i64 0]), 6, 56) := by kernel_rfl
structure ScS (w wr : World) (q f B : Nat) (s : ByteArray) (v : Value) (gs : List Gl) (i : Nat) (e : Pl) (ts : List Tk) (tv : Value) : Prop where
  scn : Scn wr q s v gs i e
  own : wr.ownsRow B 35 6 tv ts.length (tflat ts)
  zer : PlB wr f plz
  bel : Below w.heap.size w wr
  siz : B ≤ wr.heap.size
  fw : w.heap.size ≤ f
  qw : w.heap.size ≤ q
  fq : f ≠ q
  fB : f < B
  qB : q < B
  vB : ∀ b off n c, v = .slice (some ⟨b, off, none⟩) n c → b < B
theorem ScS.below {w wr w' : World} {q f B : Nat} {s : ByteArray} {v : Value} {gs : List Gl} {i : Nat} {e : Pl} {ts : List Tk} {tv : Value} (h : ScS w wr q f B s v gs i e ts tv) (hb : Below wr.heap.size wr w') : ScS w w' q f B s v gs i e ts tv :=
  ⟨h.scn.below hb, own_below h.own hb, h.zer.below hb, h.bel.trans (hb.mono h.bel.size), Nat.le_trans h.siz hb.size, h.fw, h.qw, h.fq, h.fB, h.qB, h.vB⟩
theorem ScS.tq {w wr w' : World} {q f B : Nat} {s : ByteArray} {v : Value} {gs : List Gl} {i j : Nat} {e : Pl} {ts : List Tk} {tv : Value} (h : ScS w wr q f B s v gs i e ts tv) (ht : Tq wr w' q) (hs : Scn w' q s v gs j e) : ScS w w' q f B s v gs j e ts tv :=
  ⟨hs, own_keep h.own fun k _ hk he => (ht.other k (lt_of_heap he) (by have := h.qB; omega)).trans he, h.zer.tq ht h.fq, below_tq h.bel ht h.qw (Nat.le_refl _), Nat.le_trans h.siz ht.size, h.fw, h.qw, h.fq, h.fB, h.qB, h.vB⟩
theorem ScS.more {w wr w1 : World} {q f B : Nat} {s : ByteArray} {v : Value} {gs : List Gl} {i : Nat} {e : Pl} {ts : List Tk} {tv tv' : Value} {t : Tk} (h : ScS w wr q f B s v gs i e ts tv) (hg : wr.grownBy w1 tv.ownBlock) (hown : w1.ownsRow B 35 6 tv' (ts ++ [t]).length (tflat (ts ++ [t]))) : ScS w w1 q f B s v gs i e (ts ++ [t]) tv' := by
  have hrow : ∀ k, k < B → some k ≠ tv.ownBlock := by
    intro k hk
    obtain ⟨hl, ⟨rfl, _⟩ | ⟨b, cap, cur, rfl, hb, _⟩⟩ := h.own
    · simp [Value.ownBlock]
    · simp only [Value.ownBlock, ne_eq, Option.some.injEq]
      omega
  have hz := h.siz
  have hB : ∀ k, k < B → w1.heap[k]? = wr.heap[k]? := fun k hk => hg.block k (by omega) (hrow k hk)
  have hGs : Gs w1 v gs := by
    obtain ⟨ao, cap, rfl, h1, h2, h3, h4⟩ := h.scn.gls
    refine ⟨ao, cap, rfl, h1, h2, h3, ?_⟩
    rcases h4 with h4 | ⟨b, off, rfl, hl, hc⟩
    · exact .inl h4
    · refine .inr ⟨b, off, rfl, Nat.lt_of_lt_of_le hl hg.size, fun j u hu => ?_⟩
      rw [World.cell?_of_block (w := wr) (hB b (h.vB _ _ _ _ rfl))]
      exact hc j u hu
  exact ⟨⟨(hB q h.qB).trans h.scn.blk, hGs, h.scn.le, h.scn.apt⟩, hown, (hB f h.fB).trans h.zer, ⟨hg.os.trans h.bel.os, hg.tape.trans h.bel.tape, hg.output.trans h.bel.output, Nat.le_trans h.bel.size hg.size, fun k hk => (hB k (by have := h.fw; have := h.fB; omega)).trans (h.bel.block k hk)⟩, Nat.le_trans h.siz hg.size, h.fw, h.qw, h.fq, h.fB, h.qB, h.vB⟩
def ScanO (w w' : World) (r : Ending) : SO → Prop
  | .bad k p => r = .returned (.tuple #[.slice none 0 0, .int .i64 k, p.v])
  | .ok l => ∃ v, r = .returned (.tuple #[v, .int .i64 0, plz.v]) ∧ w'.ownsRow w.heap.size 35 6 v l.length (tflat l)
theorem pres_nil (o : SO) : o.pres [] = o := by cases o <;> rfl
theorem pres_pre (ts : List Tk) (t : Tk) (o : SO) : (o.pre t).pres ts = o.pres (ts ++ [t]) := by
  cases o with
  | bad k p => rfl
  | ok l => simp [SO.pre, SO.pres]
end Lm
end Go.Proofs.YtgfglefgpgckiaaDoor

namespace Go.Proofs.YtgfglefgpgckiaaDoor
namespace Lm
open Go Go.RowKit
set_option maxRecDepth 20000 in
set_option maxHeartbeats 1000000 in
theorem scan_long (w : World) (s : ByteArray) (hs : 4096 < s.size) :
    Calls Tryd.prog 11 #[.string s] w fun r w' => Below w.heap.size w w' ∧ r = .returned (.tuple #[.slice none 0 0, .int .i64 2, plz.v]) := by
  have hs' : (4096 : Int) < (s.size : Int) := by omega
  go_enter Tryd.func11, Tryd.ntmps11
  go_wp2
  refine bodyPost_ret (v := _) (by simp [results, Tryd.results11, go_sem]; try rfl) rfl ⟨?_, rfl⟩
  (repeat' (first | (with_reducible exact Below.refl _ _) | (with_reducible assumption) | (with_reducible refine gdrewN ?_ _) | (with_reducible refine Below.alloc ?_ ?_ _) | (with_reducible refine Below.drew ?_) | (with_reducible refine Below.setCell ?_ ?_ _) | go_size))
theorem plB_fill {w : World} {f : Nat} {p p' : Pl} (h : PlB w f p) : PlB ((((w.setCell ⟨f, 0, none⟩ (.int .i64 p'.b)).setCell ⟨f, 1, none⟩ (.int .i64 p'.g)).setCell ⟨f, 2, none⟩ (.int .i64 p'.l)).setCell ⟨f, 3, none⟩ (.int .i64 p'.c)) f p' := by
  unfold PlB
  rw [heap_setCell_same _ _ 3 _ _ _ (heap_setCell_same _ _ 2 _ _ _ (heap_setCell_same _ _ 1 _ _ _ (heap_setCell_same _ _ 0 _ _ _ h)))]
  simp
theorem fill_below {B f : Nat} {w w' : World} (h : Below B w w') (hf : B ≤ f) (u0 u1 u2 u3 : Value) : Below B w ((((w'.setCell ⟨f, 0, none⟩ u0).setCell ⟨f, 1, none⟩ u1).setCell ⟨f, 2, none⟩ u2).setCell ⟨f, 3, none⟩ u3) :=
  (((h.setCell hf _).setCell hf _).setCell hf _).setCell hf _
theorem scs_first {w w1 : World} {s : ByteArray} {ao : Option Addr} {cap : Nat} {gs : List Gl} {e : Pl} (HOWN : w1.ownsRow (w.heap.size + 2 + 2) 46 6 (.slice ao gs.length cap) gs.length (gflat gs)) (HQB : w1.heap[w.heap.size + 1]? = some (.cells #[.string s, .slice none 0 0, .int .i64 0, .int .i64 0, .int .i64 0, .int .i64 0, .int .i64 0] 63 (0, 0))) (HFB : PlB w1 w.heap.size plz) (HB1 : Below w.heap.size w w1) (hs1 : w.heap.size + 2 ≤ w1.heap.size) :
    ScS w (((((w1.setCell ⟨w.heap.size + 1, 1, none⟩ (.slice ao gs.length cap)).setCell ⟨w.heap.size + 1, 3, none⟩ (.int .i64 e.b)).setCell ⟨w.heap.size + 1, 4, none⟩ (.int .i64 e.g)).setCell ⟨w.heap.size + 1, 5, none⟩ (.int .i64 e.l)).setCell ⟨w.heap.size + 1, 6, none⟩ (.int .i64 e.c)) (w.heap.size + 1) w.heap.size w1.heap.size s (.slice ao gs.length cap) gs 0 e [] (.slice none 0 0) := by
  have ht : Tq w1 (((((w1.setCell ⟨w.heap.size + 1, 1, none⟩ (.slice ao gs.length cap)).setCell ⟨w.heap.size + 1, 3, none⟩ (.int .i64 e.b)).setCell ⟨w.heap.size + 1, 4, none⟩ (.int .i64 e.g)).setCell ⟨w.heap.size + 1, 5, none⟩ (.int .i64 e.l)).setCell ⟨w.heap.size + 1, 6, none⟩ (.int .i64 e.c)) (w.heap.size + 1) := (Tq.refl _ _).set 1 _ |>.set 3 _ |>.set 4 _ |>.set 5 _ |>.set 6 _
  have hap : ∀ b off n c, Value.slice ao gs.length cap = .slice (some ⟨b, off, none⟩) n c → b ≠ w.heap.size + 1 ∧ b < w1.heap.size := by
    intro b off n c hv
    obtain ⟨hl, ⟨h1, _⟩ | ⟨g, cap', cur, h1, hb, hh, _⟩⟩ := HOWN
    · rw [h1] at hv; cases hv
    · rw [h1] at hv
      simp only [Value.slice.injEq, Option.some.injEq, Addr.mk.injEq] at hv
      have := lt_of_heap hh
      omega
  refine ⟨⟨?_, Gs.tq (Ce.own HOWN) ht (fun b off n c hv => (hap b off n c hv).1), Nat.zero_le _, fun b off n c hv => (hap b off n c hv).1⟩, World.ownsRow_nil _ _ _ _, HFB.tq ht (by omega), below_tq HB1 ht (by omega) (Nat.le_refl _), ht.size, Nat.le_refl _, by omega, by omega, by omega, by omega, fun b off n c hv => (hap b off n c hv).2⟩
  rw [heap_setCell_same _ _ 6 _ _ _ (heap_setCell_same _ _ 5 _ _ _ (heap_setCell_same _ _ 4 _ _ _ (heap_setCell_same _ _ 3 _ _ _ (heap_setCell_same _ _ 1 _ _ _ HQB))))]
  simp
set_option maxRecDepth 20000 in
set_option maxHeartbeats 4000000 in
theorem scan_short (w : World) (s : ByteArray) (hT : Tabs w) (hs : s.size ≤ 4096) :
    Calls Tryd.prog 11 #[.string s] w fun r w' => Below w.heap.size w w' ∧ ∃ gs e o, Snd s pl0 gs e ∧ ScanR s e gs o ∧ ScanO w w' r o := by
  have hs' : decide ((4096 : Int) < (s.size : Int)) = false := by simp; omega
  go_enter Tryd.func11, Tryd.ntmps11
  go_wp2_with fail
  refine (sound_any _ _ (hT.below (by (repeat' (first | (with_reducible exact Below.refl _ _) | (with_reducible assumption) | (with_reducible refine gdrewN ?_ _) | (with_reducible refine Below.alloc ?_ ?_ _) | (with_reducible refine Below.drew ?_) | (with_reducible refine Below.setCell ?_ ?_ _) | go_size)))) hs).mono ?_
  rintro r w1 ⟨gs, e, v, hQ, rfl, hown, hb1⟩
  obtain ⟨ao, cap, rfl⟩ := own_slice hown
  have hsz0 : ((w.alloc (.cells #[.int .i64 0, .int .i64 0, .int .i64 0, .int .i64 0] 25)).alloc (.cells #[.string s, .slice none 0 0, .int .i64 0, .int .i64 0, .int .i64 0, .int .i64 0, .int .i64 0] 63)).heap.size = w.heap.size + 2 := by simp [World.size_alloc]
  have hbq := hb1
  rw [hsz0] at hown hbq
  have hqb : w1.heap[w.heap.size + 1]? = some (.cells #[.string s, .slice none 0 0, .int .i64 0, .int .i64 0, .int .i64 0, .int .i64 0, .int .i64 0] 63 (0, 0)) := by
    rw [hbq.block (w.heap.size + 1) (by omega)]
    have := heap_alloc_new (w.alloc (.cells #[.int .i64 0, .int .i64 0, .int .i64 0, .int .i64 0] 25)) (.cells #[.string s, .slice none 0 0, .int .i64 0, .int .i64 0, .int .i64 0, .int .i64 0, .int .i64 0] 63)
    rwa [World.size_alloc] at this
  have hfb : PlB w1 w.heap.size plz := by
    unfold PlB
    rw [hbq.block w.heap.size (by omega)]
    exact (((Below.refl _ _).alloc (Nat.le_refl _) (.cells #[.string s, .slice none 0 0, .int .i64 0, .int .i64 0, .int .i64 0, .int .i64 0, .int .i64 0] 63)).block w.heap.size (by simp [World.size_alloc])).trans (heap_alloc_new w (.cells #[.int .i64 0, .int .i64 0, .int .i64 0, .int .i64 0] 25))
  have hb1w : Below w.heap.size w w1 := (below_two w _ _).trans (hbq.mono (by omega))
  have hs1 : w.heap.size + 2 ≤ w1.heap.size := by have := hbq.size; rwa [hsz0] at this
  have HOWN := hide hown
  have HQB := hide hqb
  have HFB := hide hfb
  have HB1 := hide hb1w
  have HQ := hide hQ
  have k1 : w1.cell? ⟨w.heap.size + 1, 1, none⟩ = some (.slice none 0 0) := by rw [cell_of_row w1 _ 1 _ _ _ hqb]; rfl
  have k3 : w1.cell? ⟨w.heap.size + 1, 3, none⟩ = some (.int .i64 0) := by rw [cell_of_row w1 _ 3 _ _ _ hqb]; rfl
  have k4 : w1.cell? ⟨w.heap.size + 1, 4, none⟩ = some (.int .i64 0) := by rw [cell_of_row w1 _ 4 _ _ _ hqb]; rfl
  have k5 : w1.cell? ⟨w.heap.size + 1, 5, none⟩ = some (.int .i64 0) := by rw [cell_of_row w1 _ 5 _ _ _ hqb]; rfl
  have k6 : w1.cell? ⟨w.heap.size + 1, 6, none⟩ = some (.int .i64 0) := by rw [cell_of_row w1 _ 6 _ _ _ hqb]; rfl
  have f1 := frozen_of_row w1 (w.heap.size + 1) 1 _ _ hqb
  have f3 := frozen_of_row w1 (w.heap.size + 1) 3 _ _ hqb
  have f4 := frozen_of_row w1 (w.heap.size + 1) 4 _ _ hqb
  have f5 := frozen_of_row w1 (w.heap.size + 1) 5 _ _ hqb
  have f6 := frozen_of_row w1 (w.heap.size + 1) 6 _ _ hqb
  clear hown hbq hqb hfb hb1 hb1w hsz0 hQ hT
  unfold Pl.v
  go_wp2_with fail
  have hS0 := scs_first (e := e) HOWN.out HQB.out HFB.out HB1.out hs1
  clear k1 k3 k4 k5 k6 f1 f3 f4 f5 f6 HOWN HQB HFB HB1
  generalize (((((w1.setCell ⟨w.heap.size + 1, 1, none⟩ (.slice ao gs.length cap)).setCell ⟨w.heap.size + 1, 3, none⟩ (.int .i64 e.b)).setCell ⟨w.heap.size + 1, 4, none⟩ (.int .i64 e.g)).setCell ⟨w.heap.size + 1, 5, none⟩ (.int .i64 e.l)).setCell ⟨w.heap.size + 1, 6, none⟩ (.int .i64 e.c)) = w2 at hS0 ⊢
  generalize w1.heap.size = B at hS0 hs1
  have hends := HQ.out.ends pl0_ok (Nat.zero_le _)
  have hgl : gs.length ≤ 4096 := by simp only [pl0] at hends; omega
  have heb : e.b ≤ s.size := hends.2.2.1
  clear hends
  refine (skip_any w2 _ s _ gs 0 e hS0.scn (by omega)).mono ?_
  rintro r w3 ⟨rfl, ht3, j0, _, hdj0, hS3⟩
  have HS := hide (hS0.tq ht3 hS3)
  rw [List.drop_zero] at hdj0
  have HD0 := hide hdj0
  clear hS0 ht3 hS3 hdj0
  generalize hq : w.heap.size + 1 = q at *
  generalize hf : w.heap.size = f at *
  replace hf : w.heap.size ≤ f := by omega
  go_wp2
  have hqf : q ≠ f := by omega
  have hfq : f ≠ q := by omega
  clear hq
  obtain ⟨i0, hi0, hz0, hz1, hz2⟩ := info_is infoT
  go_loopw [6] (fun tv wr => ∃ (ts : List Tk) (i : Nat) (ta : Option Addr) (tc : Nat) (rest : List Gl), tv = .slice ta ts.length tc ∧ ScS w wr q f B s (.slice ao gs.length cap) gs i e ts (.slice ta ts.length tc) ∧ ts.length ≤ i ∧ gs.drop i = skp false rest ∧ ∀ o, ScanR s e rest o → ScanR s e gs (o.pres ts)) (fun _ wr => gs.length - nxtS wr q)
  case atStart => exact ⟨[], j0, none, 0, gs, rfl, HS.out, Nat.zero_le _, HD0.out, fun o h => by rw [pres_nil]; exact h⟩
  case round =>
    clear HS HD0
    obtain ⟨ts, i, ta, tc, rest, rfl, hS, hti, hdi, hpre⟩ := hrel
    have HS := hide hS
    have HE := hide hpre
    have HDI := hide hdi
    have IP := hide hS.scn.nxt
    have hil := hS.scn.le
    obtain ⟨hq, k0, k1, k2, k3, k4, k5, k6⟩ := hS.scn.cells
    clear hS hpre hdi
    by_cases hj : i < gs.length
    · have hj' : (i : Int) < (gs.length : Int) := by omega
      have hgi : gs[i]? = some (gs[i]'hj) := List.getElem?_eq_getElem hj
      have hdr := List.drop_eq_getElem_cons hj
      generalize gs[i]'hj = g at hgi hdr
      have HG := hide hgi
      have HDR := hide hdr
      clear hgi hdr
      go_wp2_with fail
      go_quiet (fail)
      have HS1 := hide (HS.out.below (gdrewN (Below.refl _ _) nq))
      clear HS k0 k1 k2 k3 k4 k5 k6 hq
      generalize wr.drewN nq = w1 at HS1 ⊢
      go_wp2_with fail
      refine (place_any w1 q s _ gs i e HS1.out.scn).mono ?_
      rintro r w2 ⟨rfl, hb2⟩
      have HS2 := hide (HS1.out.below hb2)
      rw [HDR.out]
      simp only [plf]
      clear hb2 HS1
      unfold Pl.v
      go_wp2_with fail
      have HS3 := hide (HS2.out.below ((Below.refl _ _).alloc (Nat.le_refl _) (.cells #[.int .i64 g.pl.b, .int .i64 g.pl.g, .int .i64 g.pl.l, .int .i64 g.pl.c] 25)))
      have hp3 : PlB (w2.alloc (.cells #[.int .i64 g.pl.b, .int .i64 g.pl.g, .int .i64 g.pl.l, .int .i64 g.pl.c] 25)) w2.heap.size g.pl := heap_alloc_new w2 _
      have ha3 : w2.heap.size ≠ q ∧ w2.heap.size ≠ f := by have := HS2.out.siz; have := HS2.out.qB; have := HS2.out.fB; omega
      clear HS2
      generalize w2.alloc (.cells #[.int .i64 g.pl.b, .int .i64 g.pl.g, .int .i64 g.pl.l, .int .i64 g.pl.c] 25) = w3 at HS3 hp3 ⊢
      generalize w2.heap.size = a7 at ha3 hp3 ⊢
      have HP3 := hide hp3
      clear hp3
      refine (token_any w3 q s _ gs i e HS3.out.scn (by omega) HQ.out hs g HG.out).mono ?_
      rintro r w4 ⟨o, ho, hO⟩
      obtain ⟨kd, tx, kk, rfl, hV⟩ := hO.v
      have HV := hide hV
      have HO := hide ho
      have HP4 := hide (HP3.out.tq hV.tq ha3.1)
      have HZ4 := hide (HS3.out.zer.tq hV.tq hfq)
      have HB4 := hide (below_tq HS3.out.bel hV.tq HS3.out.qw (Nat.le_refl _))
      clear hO hV ho HP3
      obtain ⟨hf7, p0, p1, p2, p3⟩ := HP4.out.cells
      by_cases hk : kk = 0
      · subst hk
        cases o with
        | bad k =>
          exfalso
          obtain ⟨h1, h2, _⟩ := HV.out.out
          simp only [tok0, Ending.returned.injEq, Value.tuple.injEq, Array.mk.injEq, List.cons.injEq, Value.int.injEq, true_and, and_true] at h2
          exact h1 h2.2.symm
        | ok kind text rest' =>
          obtain ⟨h2, hT4, j, hij, hdj, hS4⟩ := HV.out.out
          simp only [Ending.returned.injEq, Value.tuple.injEq, Array.mk.injEq, List.cons.injEq, Value.int.injEq, Value.agg.injEq, Value.string.injEq, true_and, and_true] at h2
          obtain ⟨rfl, rfl⟩ := h2
          have HS4 := hide (HS3.out.tq hT4 hS4)
          have HDJ := hide hdj
          clear hT4 hS4 hdj HS3 HV HZ4 HB4
          have hone : ∀ u ∈ ([.int .i64 kd, .string tx, .int .i64 g.pl.b, .int .i64 g.pl.g, .int .i64 g.pl.l, .int .i64 g.pl.c] : List Value), u.oneCell' = true := by
            intro u hu
            simp only [List.mem_cons, List.not_mem_nil, or_false] at hu
            rcases hu with rfl | rfl | rfl | rfl | rfl | rfl <;> rfl
          have hown := own_below (own_below HS4.out.own ((Below.refl _ _).alloc (Nat.le_refl _) (.cells #[.int .i64 kd, .string tx, .int .i64 g.pl.b, .int .i64 g.pl.g, .int .i64 g.pl.l, .int .i64 g.pl.c] 35))) ((Below.refl _ _).alloc (Nat.le_refl _) (.cells #[.int .i64 kd, .string tx, .int .i64 g.pl.b, .int .i64 g.pl.g, .int .i64 g.pl.l, .int .i64 g.pl.c] 35))
          have hsz := HS4.out.siz
          go_wp2_with (at_builtin; refine wpList_append_lies _ rfl (.tmp 55) (.tmp 57) 23 rfl B 35 i0 _ 6 56 Tryd.underlying23 hi0 hz0 hz1 hz2 rfl (by decide) (.slice ta ts.length tc) ts.length (tflat ts) (by simp [Act.eval]) hown ⟨w4.heap.size + 1, 0, none⟩ 1 1 [.int .i64 kd, .string tx, .int .i64 g.pl.b, .int .i64 g.pl.g, .int .i64 g.pl.l, .int .i64 g.pl.c] (by simp [Act.eval]) rfl (by have := World.news_of_block (heap_alloc_new (w4.alloc (.cells #[.int .i64 kd, .string tx, .int .i64 g.pl.b, .int .i64 g.pl.g, .int .i64 g.pl.l, .int .i64 g.pl.c] 35)) (.cells #[.int .i64 kd, .string tx, .int .i64 g.pl.b, .int .i64 g.pl.g, .int .i64 g.pl.l, .int .i64 g.pl.c] 35)); rwa [World.size_alloc] at this) hone (by omega) (by unfold maxLen; omega) (by omega) (by simp [World.size_alloc]; omega) _ rfl ?_; intro g1 cap1 w5 hown5 hgrow5 hat5 hlt5)
          have HS5 := hide ((HS4.out.below (below_two _ _ _)).more (t := ⟨kd, tx, g.pl⟩) hgrow5 (by simpa [tflat_append, tflat] using hown5))
          clear hown5 hgrow5 hat5 hlt5 hown hone hsz HS4
          refine (skip_any w5 q s _ gs j e HS5.out.scn (by omega)).mono ?_
          rintro r w6 ⟨rfl, ht6, j6, hj6, hdj6, hS6⟩
          have HS6 := hide (HS5.out.tq ht6 hS6)
          have HD6 := hide hdj6
          clear ht6 hS6 hdj6 HS5
          go_wp2
          go_roundw
          case rel =>
            refine ⟨ts ++ [⟨kd, tx, g.pl⟩], j6, some ⟨g1, 0, none⟩, cap1, rest', by simp, ?_, by simp; omega, by rw [HD6.out, HDJ.out], ?_⟩
            · have := HS6.out
              simpa using this
            · intro o ho
              have h1 := HE.out _ (ScanR.tok rest g (gs.drop (i + 1)) kd tx rest' o (by rw [← HDI.out, HDR.out]) HO.out ho)
              rwa [pres_pre] at h1
          case measure => rw [IP.out, HS6.out.scn.nxt]; have := HS6.out.scn.le; omega
      · have hk' : (kk != 0) = true := by simp [hk]
        cases o with
        | ok kind text rest' =>
          exfalso
          obtain ⟨h2, _⟩ := HV.out.out
          simp only [Ending.returned.injEq, Value.tuple.injEq, Array.mk.injEq, List.cons.injEq, Value.int.injEq, Value.agg.injEq, Value.string.injEq, true_and, and_true] at h2
          exact hk h2.2
        | bad k =>
          obtain ⟨h1, h2, _⟩ := HV.out.out
          simp only [tok0, Ending.returned.injEq, Value.tuple.injEq, Array.mk.injEq, List.cons.injEq, Value.int.injEq, Value.agg.injEq, Value.string.injEq, true_and, and_true] at h2
          have hkk : kk = k := h2.2
          have HKK := hide hkk
          clear h2 hkk HV
          obtain ⟨hff, y0, y1, y2, y3⟩ := HZ4.out.cells
          have f0 := frozen_of_row w4 f 0 _ _ HZ4.out
          have f1 := frozen_of_row w4 f 1 _ _ HZ4.out
          have f2 := frozen_of_row w4 f 2 _ _ HZ4.out
          have f3 := frozen_of_row w4 f 3 _ _ HZ4.out
          go_wp2_with fail
          go_region
          go_wp2
          have hX : PlB ((((((w4.setCell ⟨f, 0, none⟩ (.int .i64 g.pl.b)).setCell ⟨f, 1, none⟩ (.int .i64 g.pl.g)).setCell ⟨f, 2, none⟩ (.int .i64 g.pl.l)).setCell ⟨f, 3, none⟩ (.int .i64 g.pl.c)).alloc (.cells #[.int .i64 kd, .string tx, .int .i64 0, .int .i64 0, .int .i64 0, .int .i64 0] 35)).drew) f g.pl := (plB_fill HZ4.out).below (((Below.refl _ _).alloc (Nat.le_refl _) _).drew)
          have hXB : Below w.heap.size w ((((((w4.setCell ⟨f, 0, none⟩ (.int .i64 g.pl.b)).setCell ⟨f, 1, none⟩ (.int .i64 g.pl.g)).setCell ⟨f, 2, none⟩ (.int .i64 g.pl.l)).setCell ⟨f, 3, none⟩ (.int .i64 g.pl.c)).alloc (.cells #[.int .i64 kd, .string tx, .int .i64 0, .int .i64 0, .int .i64 0, .int .i64 0] 35)).drew) := ((fill_below HB4.out hf _ _ _ _).alloc (by have := HB4.out.size; simpa [World.setCell] using this) _).drew
          generalize ((((((w4.setCell ⟨f, 0, none⟩ (.int .i64 g.pl.b)).setCell ⟨f, 1, none⟩ (.int .i64 g.pl.g)).setCell ⟨f, 2, none⟩ (.int .i64 g.pl.l)).setCell ⟨f, 3, none⟩ (.int .i64 g.pl.c)).alloc (.cells #[.int .i64 kd, .string tx, .int .i64 0, .int .i64 0, .int .i64 0, .int .i64 0] 35)).drew) = wf at hX hXB ⊢
          obtain ⟨_, x0, x1, x2, x3⟩ := hX.cells
          refine bodyPost_ret (v := _) (by simp [results, Tryd.results11, go_sem, x0, x1, x2, x3]; try rfl) rfl ⟨hXB, gs, e, .bad k g.pl, HQ.out, HE.out _ (ScanR.bad rest g (gs.drop (i + 1)) k (by rw [← HDI.out, HDR.out]) HO.out), ?_⟩
          show _ = _
          rw [HKK.out]
          rfl
    · have hdr : gs.drop i = [] := List.drop_eq_nil_of_le (by omega)
      rw [hdr] at HDI
      have hj' : decide ((i : Int) < (gs.length : Int)) = false := by simp; omega
      clear hdr
      by_cases hbe : e.b < s.size
      · have hbe' : (e.b : Int) < (s.size : Int) := by omega
        obtain ⟨hff, y0, y1, y2, y3⟩ := HS.out.zer.cells
        have f0 := frozen_of_row wr f 0 _ _ HS.out.zer
        have f1 := frozen_of_row wr f 1 _ _ HS.out.zer
        have f2 := frozen_of_row wr f 2 _ _ HS.out.zer
        have f3 := frozen_of_row wr f 3 _ _ HS.out.zer
        go_wp2_with fail
        go_quiet (fail)
        go_wp2_with fail
        go_region
        go_wp2
        refine bodyPost_ret (v := _) (by simp [results, Tryd.results11, go_sem, y0, y1, y2, y3]; try rfl) rfl ⟨?_, gs, e, .bad 40 e, HQ.out, HE.out _ (ScanR.rune rest HDI.out.symm hbe), rfl⟩
        have hB := HS.out.bel
        (repeat' (first | (with_reducible exact Below.refl _ _) | (with_reducible assumption) | (with_reducible refine gdrewN ?_ _) | (with_reducible refine Below.alloc ?_ ?_ _) | (with_reducible refine Below.drew ?_) | (with_reducible refine Below.setCell ?_ ?_ _) | go_size))
      · have hbe' : decide ((e.b : Int) < (s.size : Int)) = false := by simp; omega
        have hone : ∀ u ∈ ([.int .i64 0, .string ⟨#[]⟩, .int .i64 e.b, .int .i64 e.g, .int .i64 e.l, .int .i64 e.c] : List Value), u.oneCell' = true := by
          intro u hu
          simp only [List.mem_cons, List.not_mem_nil, or_false] at hu
          rcases hu with rfl | rfl | rfl | rfl | rfl | rfl <;> rfl
        go_wp2_with fail
        go_quiet (fail)
        have HS1 := hide (HS.out.below (gdrewN (Below.refl _ _) nq))
        clear HS k0 k1 k2 k3 k4 k5 k6 hq
        generalize wr.drewN nq = w1 at HS1 ⊢
        obtain ⟨hq, k0, k1, k2, k3, k4, k5, k6⟩ := HS1.out.scn.cells
        have hown := own_below HS1.out.own ((Below.refl _ _).alloc (Nat.le_refl _) (.cells #[.int .i64 0, .string ⟨#[]⟩, .int .i64 e.b, .int .i64 e.g, .int .i64 e.l, .int .i64 e.c] 35))
        have hsz := HS1.out.siz
        go_wp2_with (at_builtin; refine wpList_append_lies _ rfl (.tmp 71) (.tmp 77) 23 rfl B 35 i0 _ 6 56 Tryd.underlying23 hi0 hz0 hz1 hz2 rfl (by decide) (.slice ta ts.length tc) ts.length (tflat ts) (by simp [Act.eval]) hown ⟨w1.heap.size, 0, none⟩ 1 1 [.int .i64 0, .string ⟨#[]⟩, .int .i64 e.b, .int .i64 e.g, .int .i64 e.l, .int .i64 e.c] (by simp [Act.eval]) rfl (World.news_of_block (heap_alloc_new w1 (.cells #[.int .i64 0, .string ⟨#[]⟩, .int .i64 e.b, .int .i64 e.g, .int .i64 e.l, .int .i64 e.c] 35))) hone (by omega) (by unfold maxLen; omega) (by omega) (by simp [World.size_alloc]; omega) _ rfl ?_; intro g1 cap1 w5 hown5 hgrow5 hat5 hlt5; have HS5 := hide ((HS1.out.below ((Below.refl _ _).alloc (Nat.le_refl _) _)).more (t := ⟨0, ⟨#[]⟩, e⟩) hgrow5 (by simpa [tflat_append, tflat] using hown5)); obtain ⟨hff, y0, y1, y2, y3⟩ := HS5.out.zer.cells; have f0 := frozen_of_row w5 f 0 _ _ HS5.out.zer; have f1 := frozen_of_row w5 f 1 _ _ HS5.out.zer; have f2 := frozen_of_row w5 f 2 _ _ HS5.out.zer; have f3 := frozen_of_row w5 f 3 _ _ HS5.out.zer; clear hown5 hgrow5 hat5 hlt5)
        refine bodyPost_ret (v := .tuple #[.slice (some ⟨g1, 0, none⟩) (ts.length + 1) cap1, .int .i64 0, plz.v]) (by simp [results, Tryd.results11, go_sem, y0, y1, y2, y3, plz, Pl.v]) rfl ⟨?_, gs, e, .ok (ts ++ [(⟨0, ⟨#[]⟩, e⟩ : Tk)]), HQ.out, HE.out _ (ScanR.done rest HDI.out.symm (by omega)), _, rfl, ?_⟩
        · have hB := HS5.out.bel
          (repeat' (first | (with_reducible exact Below.refl _ _) | (with_reducible assumption) | (with_reducible refine gdrewN ?_ _) | (with_reducible refine Below.alloc ?_ ?_ _) | (with_reducible refine Below.drew ?_) | (with_reducible refine Below.setCell ?_ ?_ _) | go_size))
        · have e5 : (ts ++ [(⟨0, ⟨#[]⟩, e⟩ : Tk)]).length = ts.length + 1 := by simp
          have h5 := HS5.out.own
          rw [e5] at h5 ⊢
          refine own_mono (own_keep h5 ?_) (show w.heap.size ≤ B by omega)
          intro k o hk he
          have hkf : k ≠ f := by omega
          rw [heap_setCell_other _ ⟨f, 3, none⟩ k _ hkf, heap_setCell_other _ ⟨f, 2, none⟩ k _ hkf, heap_setCell_other _ ⟨f, 1, none⟩ k _ hkf, heap_setCell_other _ ⟨f, 0, none⟩ k _ hkf]
          exact he
theorem scan_any (w : World) (s : ByteArray) (hT : Tabs w) :
    Calls Tryd.prog 11 #[.string s] w fun r w' => Below w.heap.size w w' ∧ ((4096 < s.size ∧ r = .returned (.tuple #[.slice none 0 0, .int .i64 2, plz.v])) ∨ (s.size ≤ 4096 ∧ ∃ gs e o, Snd s pl0 gs e ∧ ScanR s e gs o ∧ ScanO w w' r o)) := by
  by_cases hs : 4096 < s.size
  · exact (scan_long w s hs).mono fun r w' h => ⟨h.1, .inl ⟨hs, h.2⟩⟩
  · exact (scan_short w s hT (by omega)).mono fun r w' h => ⟨h.1, .inr ⟨by omega, h.2⟩⟩
end Lm
end Go.Proofs.YtgfglefgpgckiaaDoor

namespace Go.Proofs.YtgfglefgpgckiaaDoor
namespace Lm
open Go Go.RowKit
def GlyA (w w' : World) (r : Ending) (s : ByteArray) (gs : List Gl) (e : Pl) : Prop :=
  (e.b < s.size ∧ r = .returned (.tuple #[.slice none 0 0, .int .i64 40, e.v])) ∨ (s.size ≤ e.b ∧ ∃ v, r = .returned (.tuple #[v, .int .i64 0, plz.v]) ∧ w'.ownsRow w.heap.size 46 6 v gs.length (gflat gs))
set_option maxRecDepth 20000 in
set_option maxHeartbeats 1000000 in
theorem glyphs_short (w : World) (s : ByteArray) (hT : Tabs w) (hs : s.size ≤ 4096) :
    Calls Tryd.prog 20 #[.string s] w fun r w' => Below w.heap.size w w' ∧ ∃ gs e, Snd s pl0 gs e ∧ GlyA w w' r s gs e := by
  have hs' : decide ((4096 : Int) < (s.size : Int)) = false := by simp; omega
  go_enter Tryd.func20, Tryd.ntmps20
  go_wp2_with fail
  refine (sound_any _ _ (hT.below (by (repeat' (first | (with_reducible exact Below.refl _ _) | (with_reducible assumption) | (with_reducible refine gdrewN ?_ _) | (with_reducible refine Below.alloc ?_ ?_ _) | (with_reducible refine Below.drew ?_) | (with_reducible refine Below.setCell ?_ ?_ _) | go_size)))) hs).mono ?_
  rintro r w1 ⟨gs, e, v, hQ, rfl, hown, hb1⟩
  obtain ⟨ao, cap, rfl⟩ := own_slice hown
  have hsz0 : (w.alloc (.cells #[.int .i64 0, .int .i64 0, .int .i64 0, .int .i64 0] 25)).heap.size = w.heap.size + 1 := World.size_alloc w _
  have hbq := hb1
  rw [hsz0] at hown hbq
  have hfb : PlB w1 w.heap.size plz := (hbq.block w.heap.size (by omega)).trans (heap_alloc_new w _)
  have hb1w : Below w.heap.size w w1 := ((Below.refl _ _).alloc (Nat.le_refl _) _).trans (hbq.mono (by omega))
  have HOWN := hide hown
  have HB := hide hb1w
  have HFB := hide hfb
  have hw1 : w.heap.size + 1 ≤ w1.heap.size := by have := hbq.size; rwa [hsz0] at this
  obtain ⟨hff, y0, y1, y2, y3⟩ := hfb.cells
  have f0 := frozen_of_row w1 w.heap.size 0 _ _ hfb
  have f1 := frozen_of_row w1 w.heap.size 1 _ _ hfb
  have f2 := frozen_of_row w1 w.heap.size 2 _ _ hfb
  have f3 := frozen_of_row w1 w.heap.size 3 _ _ hfb
  clear hown hbq hfb hb1 hb1w hsz0 hT
  unfold Pl.v
  by_cases hbe : e.b < s.size
  · have hbe' : (e.b : Int) < (s.size : Int) := by omega
    go_wp2_with fail
    go_region
    go_wp2
    have hX : PlB ((((((w1.setCell ⟨w.heap.size, 0, none⟩ (.int .i64 e.b)).setCell ⟨w.heap.size, 1, none⟩ (.int .i64 e.g)).setCell ⟨w.heap.size, 2, none⟩ (.int .i64 e.l)).setCell ⟨w.heap.size, 3, none⟩ (.int .i64 e.c)).alloc (.cells #[.int .i64 e.b, .int .i64 e.g, .int .i64 e.l, .int .i64 e.c] 25)).drew) w.heap.size e := (plB_fill HFB.out).below (((Below.refl _ _).alloc (Nat.le_refl _) _).drew)
    have hXB : Below w.heap.size w ((((((w1.setCell ⟨w.heap.size, 0, none⟩ (.int .i64 e.b)).setCell ⟨w.heap.size, 1, none⟩ (.int .i64 e.g)).setCell ⟨w.heap.size, 2, none⟩ (.int .i64 e.l)).setCell ⟨w.heap.size, 3, none⟩ (.int .i64 e.c)).alloc (.cells #[.int .i64 e.b, .int .i64 e.g, .int .i64 e.l, .int .i64 e.c] 25)).drew) := ((fill_below HB.out (Nat.le_refl _) _ _ _ _).alloc (by have := HB.out.size; simpa [World.setCell] using this) _).drew
    generalize ((((((w1.setCell ⟨w.heap.size, 0, none⟩ (.int .i64 e.b)).setCell ⟨w.heap.size, 1, none⟩ (.int .i64 e.g)).setCell ⟨w.heap.size, 2, none⟩ (.int .i64 e.l)).setCell ⟨w.heap.size, 3, none⟩ (.int .i64 e.c)).alloc (.cells #[.int .i64 e.b, .int .i64 e.g, .int .i64 e.l, .int .i64 e.c] 25)).drew) = wf at hX hXB ⊢
    obtain ⟨_, x0, x1, x2, x3⟩ := hX.cells
    exact bodyPost_ret (v := _) (by simp [results, Tryd.results20, go_sem, x0, x1, x2, x3]; try rfl) rfl ⟨hXB, gs, e, hQ, .inl ⟨hbe, rfl⟩⟩
  · have hbe' : decide ((e.b : Int) < (s.size : Int)) = false := by simp; omega
    go_wp2
    have hX : PlB (((((w1.setCell ⟨w.heap.size, 0, none⟩ (.int .i64 0)).setCell ⟨w.heap.size, 1, none⟩ (.int .i64 0)).setCell ⟨w.heap.size, 2, none⟩ (.int .i64 0)).setCell ⟨w.heap.size, 3, none⟩ (.int .i64 0)).alloc (.cells #[.int .i64 e.b, .int .i64 e.g, .int .i64 e.l, .int .i64 e.c] 25)) w.heap.size plz := (plB_fill (p' := plz) HFB.out).below ((Below.refl _ _).alloc (Nat.le_refl _) _)
    have hXB : Below w.heap.size w (((((w1.setCell ⟨w.heap.size, 0, none⟩ (.int .i64 0)).setCell ⟨w.heap.size, 1, none⟩ (.int .i64 0)).setCell ⟨w.heap.size, 2, none⟩ (.int .i64 0)).setCell ⟨w.heap.size, 3, none⟩ (.int .i64 0)).alloc (.cells #[.int .i64 e.b, .int .i64 e.g, .int .i64 e.l, .int .i64 e.c] 25)) := (fill_below HB.out (Nat.le_refl _) _ _ _ _).alloc (by have := HB.out.size; simpa [World.setCell] using this) _
    have hXO : World.ownsRow (((((w1.setCell ⟨w.heap.size, 0, none⟩ (.int .i64 0)).setCell ⟨w.heap.size, 1, none⟩ (.int .i64 0)).setCell ⟨w.heap.size, 2, none⟩ (.int .i64 0)).setCell ⟨w.heap.size, 3, none⟩ (.int .i64 0)).alloc (.cells #[.int .i64 e.b, .int .i64 e.g, .int .i64 e.l, .int .i64 e.c] 25)) w.heap.size 46 6 (.slice ao gs.length cap) gs.length (gflat gs) := by
      refine own_mono (own_below (own_keep HOWN.out ?_) ((Below.refl _ _).alloc (Nat.le_refl _) _)) (show w.heap.size ≤ w.heap.size + 1 + 2 by omega)
      intro k o hk he
      have hkf : k ≠ w.heap.size := by omega
      rw [heap_setCell_other _ ⟨w.heap.size, 3, none⟩ k _ hkf, heap_setCell_other _ ⟨w.heap.size, 2, none⟩ k _ hkf, heap_setCell_other _ ⟨w.heap.size, 1, none⟩ k _ hkf, heap_setCell_other _ ⟨w.heap.size, 0, none⟩ k _ hkf]
      exact he
    generalize (((((w1.setCell ⟨w.heap.size, 0, none⟩ (.int .i64 0)).setCell ⟨w.heap.size, 1, none⟩ (.int .i64 0)).setCell ⟨w.heap.size, 2, none⟩ (.int .i64 0)).setCell ⟨w.heap.size, 3, none⟩ (.int .i64 0)).alloc (.cells #[.int .i64 e.b, .int .i64 e.g, .int .i64 e.l, .int .i64 e.c] 25)) = wf at hX hXB hXO ⊢
    obtain ⟨_, x0, x1, x2, x3⟩ := hX.cells
    exact bodyPost_ret (v := .tuple #[.slice ao gs.length cap, .int .i64 0, plz.v]) (by simp [results, Tryd.results20, go_sem, x0, x1, x2, x3]; try rfl) rfl ⟨hXB, gs, e, hQ, .inr ⟨by omega, _, rfl, hXO⟩⟩
end Lm
end Go.Proofs.YtgfglefgpgckiaaDoor

namespace Go.Proofs.YtgfglefgpgckiaaDoor
namespace Lm
open Go Go.RowKit
theorem and63 (n : Int) : bits .and .i64 n 63 = n % 64 := by
  have h63 : (BitVec.ofInt 64 63).toNat = 2 ^ 6 - 1 := by decide
  have key : (BitVec.ofInt 64 n &&& BitVec.ofInt 64 63).toNat = (n % ((2 ^ 64 : Nat) : Int)).toNat % 2 ^ 6 := by
    rw [BitVec.toNat_and, BitVec.toNat_ofInt, h63, Nat.and_two_pow_sub_one_eq_mod]
  show IntKind.i64.wrap ((BitVec.ofInt 64 n &&& BitVec.ofInt 64 63).toNat : Nat) = n % 64
  rw [key, IntKind.wrap_i64]
  omega
theorem bys (w : World) (l : List UInt8) (n : Nat) (hn : n = l.length) (cs : Array Value) (hc : cs = (l.map fun b => Value.int .u8 (b.toNat : Int)).toArray) :
    (convert 70 9 (.slice (some ⟨w.heap.size, 0, none⟩) n n)).run Tryd.prog (w.alloc (.cells cs 5)) = .ok (.string ⟨l.toArray⟩) (w.alloc (.cells cs 5)) := by
  subst hn
  refine run_convert_bytes_back _ 70 9 5 _ _ l Tryd.underlying70 Tryd.underlying5 Tryd.underlying9 ?_
  intro j hj
  have e : (⟨w.heap.size, 0, none⟩ : Addr).add j = ⟨w.heap.size, j, none⟩ := by simp [Addr.add]; intro h; exact h.symm
  rw [e, World.cell?_alloc_mark, hc]
  simp [hj]
set_option maxRecDepth 20000 in
set_option maxHeartbeats 1000000 in
set_option maxRecDepth 400000 in
theorem by_a (w : World) (c : Nat) (_h0 : c < 128) (b0 : UInt8) (_e0 : b0.toNat = c) :
    Calls Tryd.prog 19 #[.int .i64 c] w fun e w' => e = .returned (.string ⟨#[b0]⟩) ∧ Below w.heap.size w w' := by
  have hr := bys w [b0] 1 rfl #[.int .u8 ((c : Int))] (by simp only [List.map, List.toArray]; simp only [_e0])
  clear _e0
  go_enter Tryd.func19, Tryd.ntmps19
  go_wp2
  go_ret
  exact ⟨by rfl, by (repeat' (first | (with_reducible exact Below.refl _ _) | (with_reducible assumption) | (with_reducible refine gdrewN ?_ _) | (with_reducible refine Below.alloc ?_ ?_ _) | (with_reducible refine Below.drew ?_) | (with_reducible refine Below.setCell ?_ ?_ _) | go_size))⟩
set_option maxRecDepth 20000 in
set_option maxHeartbeats 1000000 in
set_option maxRecDepth 400000 in
theorem by_b (w : World) (c : Nat) (_h0 : 128 ≤ c) (_h1 : c < 2048) (b0 b1 : UInt8) (_e0 : b0.toNat = 192 + c / 64) (_e1 : b1.toNat = 128 + c % 64) :
    Calls Tryd.prog 19 #[.int .i64 c] w fun e w' => e = .returned (.string ⟨#[b0, b1]⟩) ∧ Below w.heap.size w w' := by
  have hm0 : bits .and .i64 ((c : Int)) 63 = (c : Int) % 64 := and63 _
  have hr := bys w [b0, b1] 2 rfl #[.int .u8 (192 + (c : Int) / 64), .int .u8 (128 + (c : Int) % 64)] (by simp only [List.map, List.toArray]; simp only [_e0, _e1]; congr 1)
  clear _e0 _e1
  go_enter Tryd.func19, Tryd.ntmps19
  go_wp2
  go_ret
  exact ⟨by rfl, by (repeat' (first | (with_reducible exact Below.refl _ _) | (with_reducible assumption) | (with_reducible refine gdrewN ?_ _) | (with_reducible refine Below.alloc ?_ ?_ _) | (with_reducible refine Below.drew ?_) | (with_reducible refine Below.setCell ?_ ?_ _) | go_size))⟩
set_option maxRecDepth 20000 in
set_option maxHeartbeats 1000000 in
set_option maxRecDepth 400000 in
theorem by_c (w : World) (c : Nat) (_h0 : 2048 ≤ c) (_h1 : c < 65536) (b0 b1 b2 : UInt8) (_e0 : b0.toNat = 224 + c / 4096) (_e1 : b1.toNat = 128 + c / 64 % 64) (_e2 : b2.toNat = 128 + c % 64) :
    Calls Tryd.prog 19 #[.int .i64 c] w fun e w' => e = .returned (.string ⟨#[b0, b1, b2]⟩) ∧ Below w.heap.size w w' := by
  have hm0 : bits .and .i64 ((c : Int)) 63 = (c : Int) % 64 := and63 _
  have hm1 : bits .and .i64 ((c : Int) / 64) 63 = (c : Int) / 64 % 64 := and63 _
  have hr := bys w [b0, b1, b2] 3 rfl #[.int .u8 (224 + (c : Int) / 4096), .int .u8 (128 + (c : Int) / 64 % 64), .int .u8 (128 + (c : Int) % 64)] (by simp only [List.map, List.toArray]; simp only [_e0, _e1, _e2]; congr 1)
  clear _e0 _e1 _e2
  go_enter Tryd.func19, Tryd.ntmps19
  go_wp2
  go_ret
  exact ⟨by rfl, by (repeat' (first | (with_reducible exact Below.refl _ _) | (with_reducible assumption) | (with_reducible refine gdrewN ?_ _) | (with_reducible refine Below.alloc ?_ ?_ _) | (with_reducible refine Below.drew ?_) | (with_reducible refine Below.setCell ?_ ?_ _) | go_size))⟩
set_option maxRecDepth 20000 in
set_option maxHeartbeats 1000000 in
set_option maxRecDepth 400000 in
theorem by_d (w : World) (c : Nat) (_h0 : 65536 ≤ c) (_h1 : c ≤ 1114111) (b0 b1 b2 b3 : UInt8) (_e0 : b0.toNat = 240 + c / 262144) (_e1 : b1.toNat = 128 + c / 4096 % 64) (_e2 : b2.toNat = 128 + c / 64 % 64) (_e3 : b3.toNat = 128 + c % 64) :
    Calls Tryd.prog 19 #[.int .i64 c] w fun e w' => e = .returned (.string ⟨#[b0, b1, b2, b3]⟩) ∧ Below w.heap.size w w' := by
  have hm0 : bits .and .i64 ((c : Int)) 63 = (c : Int) % 64 := and63 _
  have hm1 : bits .and .i64 ((c : Int) / 64) 63 = (c : Int) / 64 % 64 := and63 _
  have hm2 : bits .and .i64 ((c : Int) / 4096) 63 = (c : Int) / 4096 % 64 := and63 _
  have hr := bys w [b0, b1, b2, b3] 4 rfl #[.int .u8 (240 + (c : Int) / 262144), .int .u8 (128 + (c : Int) / 4096 % 64), .int .u8 (128 + (c : Int) / 64 % 64), .int .u8 (128 + (c : Int) % 64)] (by simp only [List.map, List.toArray]; simp only [_e0, _e1, _e2, _e3]; congr 1)
  clear _e0 _e1 _e2 _e3
  go_enter Tryd.func19, Tryd.ntmps19
  go_wp2
  go_ret
  exact ⟨by rfl, by (repeat' (first | (with_reducible exact Below.refl _ _) | (with_reducible assumption) | (with_reducible refine gdrewN ?_ _) | (with_reducible refine Below.alloc ?_ ?_ _) | (with_reducible refine Below.drew ?_) | (with_reducible refine Below.setCell ?_ ?_ _) | go_size))⟩
end Lm
end Go.Proofs.YtgfglefgpgckiaaDoor

namespace Go.Proofs.YtgfglefgpgckiaaDoor
namespace Lm
open Go Go.RowKit
theorem ba_ext {s : ByteArray} {l : List UInt8} (h : s.data.toList = l) : s = ⟨l.toArray⟩ := by
  cases s with
  | mk d => subst h; simp
end Lm
end Go.Proofs.YtgfglefgpgckiaaDoor

namespace Go.Proofs.YtgfglefgpgckiaaDoor
namespace Lm
open Go Go.RowKit
theorem snd_step {s : ByteArray} {p e : Pl} {gs : List Gl} {c k : Nat} (h : p.b < s.size) (hd : Utf8.decode s p.b = (c, k)) (hc : (c, k) ≠ (65533, 1)) (hr : Snd s (p.past c k) gs e) : Snd s p (⟨c, p⟩ :: gs) e := by
  have := Snd.go p gs e h (by rw [hd]; exact hc) (by rw [hd]; exact hr)
  rwa [hd] at this
theorem tok_name {s : ByteArray} {e : Pl} {g : Gl} {r t : List Gl} {x : ByteArray} (h : gcls g.code = 2) (ht : (g :: r).dropWhile (inC [2, 3, 4]) = t) (hl : ¬ 16 < (g :: r).length - t.length) (hx : s.extract g.pl.b (plf t e).b = x) : TokR s e g r (.ok 1 x t) := by
  have := tokR_name (s := s) (e := e) (r := r) h
  rwa [ht, if_neg hl, hx] at this
def aws : ByteArray := ⟨#[206, 177, 32, 226, 137, 148, 32, 50, 120]⟩
theorem aws_snd : Snd aws pl0 [⟨945, ⟨0, 0, 1, 1⟩⟩, ⟨32, ⟨2, 1, 1, 2⟩⟩, ⟨8788, ⟨3, 2, 1, 3⟩⟩, ⟨32, ⟨6, 3, 1, 4⟩⟩, ⟨50, ⟨7, 4, 1, 5⟩⟩, ⟨120, ⟨8, 5, 1, 6⟩⟩] ⟨9, 6, 1, 7⟩ := by
  refine snd_step (k := 2) (by decide) (by kernel_rfl) (by decide) ?_
  refine snd_step (p := ⟨2, 1, 1, 2⟩) (k := 1) (by decide) (by kernel_rfl) (by decide) ?_
  refine snd_step (p := ⟨3, 2, 1, 3⟩) (k := 3) (by decide) (by kernel_rfl) (by decide) ?_
  refine snd_step (p := ⟨6, 3, 1, 4⟩) (k := 1) (by decide) (by kernel_rfl) (by decide) ?_
  refine snd_step (p := ⟨7, 4, 1, 5⟩) (k := 1) (by decide) (by kernel_rfl) (by decide) ?_
  refine snd_step (p := ⟨8, 5, 1, 6⟩) (k := 1) (by decide) (by kernel_rfl) (by decide) ?_
  exact .stop ⟨9, 6, 1, 7⟩ (.inl (by decide))
theorem aws_scan : ScanR aws ⟨9, 6, 1, 7⟩ [⟨945, ⟨0, 0, 1, 1⟩⟩, ⟨32, ⟨2, 1, 1, 2⟩⟩, ⟨8788, ⟨3, 2, 1, 3⟩⟩, ⟨32, ⟨6, 3, 1, 4⟩⟩, ⟨50, ⟨7, 4, 1, 5⟩⟩, ⟨120, ⟨8, 5, 1, 6⟩⟩] (.ok [⟨1, ⟨#[206, 177]⟩, ⟨0, 0, 1, 1⟩⟩, ⟨3, ⟨#[58, 61]⟩, ⟨3, 2, 1, 3⟩⟩, ⟨2, ⟨#[50]⟩, ⟨7, 4, 1, 5⟩⟩, ⟨1, ⟨#[120]⟩, ⟨8, 5, 1, 6⟩⟩, ⟨0, ⟨#[]⟩, ⟨9, 6, 1, 7⟩⟩]) := by
  refine ScanR.tok _ ⟨945, ⟨0, 0, 1, 1⟩⟩ [⟨32, ⟨2, 1, 1, 2⟩⟩, ⟨8788, ⟨3, 2, 1, 3⟩⟩, ⟨32, ⟨6, 3, 1, 4⟩⟩, ⟨50, ⟨7, 4, 1, 5⟩⟩, ⟨120, ⟨8, 5, 1, 6⟩⟩] 1 ⟨#[206, 177]⟩ [⟨32, ⟨2, 1, 1, 2⟩⟩, ⟨8788, ⟨3, 2, 1, 3⟩⟩, ⟨32, ⟨6, 3, 1, 4⟩⟩, ⟨50, ⟨7, 4, 1, 5⟩⟩, ⟨120, ⟨8, 5, 1, 6⟩⟩] (.ok [⟨3, ⟨#[58, 61]⟩, ⟨3, 2, 1, 3⟩⟩, ⟨2, ⟨#[50]⟩, ⟨7, 4, 1, 5⟩⟩, ⟨1, ⟨#[120]⟩, ⟨8, 5, 1, 6⟩⟩, ⟨0, ⟨#[]⟩, ⟨9, 6, 1, 7⟩⟩]) (by kernel_rfl) (tok_name (by kernel_rfl) (by kernel_rfl) (by decide) (by kernel_rfl)) ?_
  refine ScanR.tok _ ⟨8788, ⟨3, 2, 1, 3⟩⟩ [⟨32, ⟨6, 3, 1, 4⟩⟩, ⟨50, ⟨7, 4, 1, 5⟩⟩, ⟨120, ⟨8, 5, 1, 6⟩⟩] 3 ⟨#[58, 61]⟩ [⟨32, ⟨6, 3, 1, 4⟩⟩, ⟨50, ⟨7, 4, 1, 5⟩⟩, ⟨120, ⟨8, 5, 1, 6⟩⟩] (.ok [⟨2, ⟨#[50]⟩, ⟨7, 4, 1, 5⟩⟩, ⟨1, ⟨#[120]⟩, ⟨8, 5, 1, 6⟩⟩, ⟨0, ⟨#[]⟩, ⟨9, 6, 1, 7⟩⟩]) (by kernel_rfl) (tokR_sign (by kernel_rfl)) ?_
  have hnum : TokR aws ⟨9, 6, 1, 7⟩ ⟨50, ⟨7, 4, 1, 5⟩⟩ [⟨120, ⟨8, 5, 1, 6⟩⟩] (.ok 2 ⟨#[50]⟩ [⟨120, ⟨8, 5, 1, 6⟩⟩]) := by
    have hv : dval (bytesOf (aws.extract 7 8)) = 2 := by kernel_rfl
    have h1 : IsLen (dval (bytesOf (aws.extract 7 8))) 1 := ⟨[2], ⟨by intro z hz; simp at hz; omega, by kernel_rfl⟩, by rw [hv]; kernel_rfl, rfl⟩
    have h2 : IsDec [50] (dval (bytesOf (aws.extract 7 8))) := ⟨by intro z hz; simp at hz; omega, by rw [hv]; kernel_rfl, .inr ⟨50, [], rfl, by decide⟩⟩
    exact tokR_num (s := aws) (e := ⟨9, 6, 1, 7⟩) (g := ⟨50, ⟨7, 4, 1, 5⟩⟩) (r := [⟨120, ⟨8, 5, 1, 6⟩⟩]) (n := 1) (ds := [50]) (by kernel_rfl) h1 h2
  refine ScanR.tok _ ⟨50, ⟨7, 4, 1, 5⟩⟩ [⟨120, ⟨8, 5, 1, 6⟩⟩] 2 ⟨#[50]⟩ [⟨120, ⟨8, 5, 1, 6⟩⟩] (.ok [⟨1, ⟨#[120]⟩, ⟨8, 5, 1, 6⟩⟩, ⟨0, ⟨#[]⟩, ⟨9, 6, 1, 7⟩⟩]) (by kernel_rfl) hnum ?_
  refine ScanR.tok _ ⟨120, ⟨8, 5, 1, 6⟩⟩ [] 1 ⟨#[120]⟩ [] (.ok [⟨0, ⟨#[]⟩, ⟨9, 6, 1, 7⟩⟩]) (by kernel_rfl) (tok_name (by kernel_rfl) (by kernel_rfl) (by decide) (by kernel_rfl)) ?_
  exact ScanR.done _ (by kernel_rfl) (by decide)
set_option maxRecDepth 20000 in
set_option maxHeartbeats 1000000 in
theorem gawake_any (w : World) (hT : Tabs w) :
    Calls Tryd.prog 9 #[] w fun r w' => r = .returned (.bool true) ∧ Below w.heap.size w w' := by
  have K : Calls Tryd.prog 11 #[.string ⟨#[206, 177, 32, 226, 137, 148, 32, 50, 120]⟩] w fun r w' => Below w.heap.size w w' ∧ ∃ v, r = .returned (.tuple #[v, .int .i64 0, .agg #[.int .i64 0, .int .i64 0, .int .i64 0, .int .i64 0]]) ∧ w'.ownsRow w.heap.size 35 6 v 5 (tflat [⟨1, ⟨#[206, 177]⟩, ⟨0, 0, 1, 1⟩⟩, ⟨3, ⟨#[58, 61]⟩, ⟨3, 2, 1, 3⟩⟩, ⟨2, ⟨#[50]⟩, ⟨7, 4, 1, 5⟩⟩, ⟨1, ⟨#[120]⟩, ⟨8, 5, 1, 6⟩⟩, ⟨0, ⟨#[]⟩, ⟨9, 6, 1, 7⟩⟩]) := by
    refine (scan_any w aws hT).mono ?_
    rintro r w' ⟨hb, ⟨h, _⟩ | ⟨_, gs, e, o, h1, h2, h3⟩⟩
    · exact absurd h (by decide)
    · obtain ⟨rfl, rfl⟩ := h1.one aws_snd
      obtain rfl := h2.one aws_scan
      obtain ⟨v, h4, h5⟩ := h3
      exact ⟨hb, v, h4, h5⟩
  go_enter Tryd.func9, Tryd.ntmps9
  go_wp2_with fail
  refine K.mono ?_
  rintro r w1 ⟨hb, v, rfl, hown⟩
  have HB := hide hb
  obtain ⟨ao, cap, rfl, c1, c2, c3, c4⟩ := Ce.own hown
  rcases c4 with c4 | ⟨b, off, rfl, hl, hc⟩
  · omega
  have t0 : w1.cell? ⟨b, off + 1, none⟩ = some (.string ⟨#[206, 177]⟩) := hc 1 _ rfl
  have t1 : w1.cell? ⟨b, off + 6 + 1, none⟩ = some (.string ⟨#[58, 61]⟩) := hc 7 _ rfl
  have t2 : w1.cell? ⟨b, off + 12 + 1, none⟩ = some (.string ⟨#[50]⟩) := hc 13 _ rfl
  have t3 : w1.cell? ⟨b, off + 18 + 1, none⟩ = some (.string ⟨#[120]⟩) := hc 19 _ rfl
  have t4 : w1.cell? ⟨b, off + 24, none⟩ = some (.int .i64 0) := hc 24 _ rfl
  have hK2 : gcls 945 = 2 := by kernel_rfl
  clear hb hown c1 c2 c3 hc K
  go_wp2_with (go_at_call 23; refine (gcls_any _ _).mono ?_; rintro r w' ⟨rfl, rfl⟩)
  go_ret
  exact ⟨rfl, HB.out.alloc HB.out.size _⟩
end Lm
end Go.Proofs.YtgfglefgpgckiaaDoor

namespace Go.Proofs.YtgfglefgpgckiaaDoor
namespace Lm
open Go Go.RowKit
theorem encs_len (u : List Nat) : (encs u).length ≤ 4 * u.length := by
  induction u with
  | nil => simp [encs]
  | cons c u ih =>
    have := encL_pos c
    simp only [encs, List.length_append, List.length_cons]
    omega
end Lm
end Go.Proofs.YtgfglefgpgckiaaDoor

namespace Go.Proofs.YtgfglefgpgckiaaDoor
namespace Lm
open Go Go.RowKit
theorem bts_append (a b : List UInt8) : bts a ++ bts b = bts (a ++ b) := by
  have h : (bts a ++ bts b).data.toList = a ++ b := by simp [bts]
  exact ba_ext h
theorem bts_size (a : List UInt8) : (bts a).size = a.length := by
  show a.toArray.size = _
  simp
end Lm
end Go.Proofs.YtgfglefgpgckiaaDoor

namespace Go.Proofs
open Go.Shelf
shelf_lay Lays.n169 Nm 169 at Tryd as Tryd.lays169
namespace YtgfglefgpgckiaaDoor
namespace Lm
open Go Go.RowKit
end Lm
end YtgfglefgpgckiaaDoor
end Go.Proofs

namespace Go.Proofs.YtgfglefgpgckiaaDoor
namespace Lm
open Go Go.RowKit
theorem extract_low (s : ByteArray) (a r : List UInt8) (h : s.data.toList = a ++ r) : s.extract 0 a.length = bts a := by
  have hd : (s.extract 0 a.length).data.toList = a := by
    rw [ByteArray.data_extract, Array.toList_extract, List.extract_eq_take_drop, h]
    simp
  exact ba_ext hd
theorem extract_high (s : ByteArray) (a r : List UInt8) (h : s.data.toList = a ++ r) : s.extract a.length s.size = bts r := by
  have hz : s.size = a.length + r.length := by
    have : s.data.toList.length = s.size := rfl
    rw [← this, h]; simp
  have hd : (s.extract a.length s.size).data.toList = r := by
    rw [ByteArray.data_extract, Array.toList_extract, List.extract_eq_take_drop, h, hz]
    simp
  exact ba_ext hd
end Lm
end Go.Proofs.YtgfglefgpgckiaaDoor

namespace Go.Proofs.YtgfglefgpgckiaaDoor
namespace Lm
open Go Go.RowKit
theorem sameplace_eq (w : World) (p : Pl) :
    Calls Tryd.prog 13 #[p.v, p.v] w fun r w' => r = .returned (.bool true) ∧ Below w.heap.size w w' := by
  unfold Pl.v
  go_enter Tryd.func13, Tryd.ntmps13
  go_wp2
  go_ret
  exact ⟨rfl, below_two _ _ _⟩
end Lm
end Go.Proofs.YtgfglefgpgckiaaDoor

namespace Go.Proofs.YtgfglefgpgckiaaDoor
namespace Lm
open Go Go.RowKit
section
variable {o : Oper} {a : Act} {C : World → Prop} {K : Act → Prop}
end
theorem PlB.set0 {w : World} {f : Nat} {p : Pl} (h : PlB w f p) (x : Nat) (z : Int) (hz : z = (x : Int)) : PlB (w.setCell ⟨f, 0, none⟩ (.int .i64 z)) f ⟨x, p.g, p.l, p.c⟩ := by
  subst hz; unfold PlB; rw [heap_setCell_same w f 0 _ _ _ h]; rfl
theorem PlB.set1 {w : World} {f : Nat} {p : Pl} (h : PlB w f p) (x : Nat) (z : Int) (hz : z = (x : Int)) : PlB (w.setCell ⟨f, 1, none⟩ (.int .i64 z)) f ⟨p.b, x, p.l, p.c⟩ := by
  subst hz; unfold PlB; rw [heap_setCell_same w f 1 _ _ _ h]; rfl
theorem PlB.set2 {w : World} {f : Nat} {p : Pl} (h : PlB w f p) (x : Nat) (z : Int) (hz : z = (x : Int)) : PlB (w.setCell ⟨f, 2, none⟩ (.int .i64 z)) f ⟨p.b, p.g, x, p.c⟩ := by
  subst hz; unfold PlB; rw [heap_setCell_same w f 2 _ _ _ h]; rfl
theorem PlB.set3 {w : World} {f : Nat} {p : Pl} (h : PlB w f p) (x : Nat) (z : Int) (hz : z = (x : Int)) : PlB (w.setCell ⟨f, 3, none⟩ (.int .i64 z)) f ⟨p.b, p.g, p.l, x⟩ := by
  subst hz; unfold PlB; rw [heap_setCell_same w f 3 _ _ _ h]; rfl
end Lm
end Go.Proofs.YtgfglefgpgckiaaDoor

namespace Go.Proofs.YtgfglefgpgckiaaDoor
namespace Lm
open Go Go.RowKit
theorem bytes_enc (w : World) (c : Nat) (hc : c ≤ 1114111) :
    Calls Tryd.prog 19 #[.int .i64 c] w fun e w' => e = .returned (.string ⟨(encL c).toArray⟩) ∧ Below w.heap.size w w' := by
  unfold encL
  split
  · exact by_a w c (by omega) _ (by rw [Nat.toUInt8, UInt8.toNat_ofNat']; omega)
  split
  · exact by_b w c (by omega) (by omega) _ _ (by rw [Nat.toUInt8, UInt8.toNat_ofNat']; omega) (by rw [Nat.toUInt8, UInt8.toNat_ofNat']; omega)
  split
  · exact by_c w c (by omega) (by omega) _ _ _ (by rw [Nat.toUInt8, UInt8.toNat_ofNat']; omega) (by rw [Nat.toUInt8, UInt8.toNat_ofNat']; omega) (by rw [Nat.toUInt8, UInt8.toNat_ofNat']; omega)
  · exact by_d w c (by omega) (by omega) _ _ _ _ (by rw [Nat.toUInt8, UInt8.toNat_ofNat']; omega) (by rw [Nat.toUInt8, UInt8.toNat_ofNat']; omega) (by rw [Nat.toUInt8, UInt8.toNat_ofNat']; omega) (by rw [Nat.toUInt8, UInt8.toNat_ofNat']; omega)
end Lm
end Go.Proofs.YtgfglefgpgckiaaDoor

namespace Go.Proofs.YtgfglefgpgckiaaDoor
namespace Lm
open Go Go.RowKit
theorem enc_byte {n : Nat} (h : n < 256) : (n.toUInt8).toNat = n := by rw [Nat.toUInt8, UInt8.toNat_ofNat']; omega
theorem encL_head (c : Nat) (hc : c ≤ 1114111) : ∃ u t, encL c = u :: t ∧ u.toNat / 64 ≠ 2 := by
  unfold encL
  split
  · exact ⟨_, _, rfl, by rw [enc_byte (by omega)]; omega⟩
  split
  · exact ⟨_, _, rfl, by rw [enc_byte (by omega)]; omega⟩
  split
  · exact ⟨_, _, rfl, by rw [enc_byte (by omega)]; omega⟩
  · exact ⟨_, _, rfl, by rw [enc_byte (by omega)]; omega⟩
theorem decode_cut (s : ByteArray) (l r : List UInt8) (c : Nat) (hc : 128 ≤ c) (hc2 : c ≤ 1114111) (h : s.data.toList = l ++ (encL c).dropLast ++ r) (hr : r = [] ∨ ∃ u t, r = u :: t ∧ u.toNat / 64 ≠ 2) : l.length < s.size ∧ Utf8.decode s l.length = (65533, 1) := by
  have hz : s.size = l.length + (encL c).dropLast.length + r.length := by
    have : s.data.toList.length = s.size := rfl
    rw [← this, h]; simp; omega
  have hg := fun j u => get!_list s l ((encL c).dropLast ++ r) [] (by rw [h]; simp) j u
  rw [Lib.decode_at]
  by_cases h2 : c < 2048
  · have e : encL c = [(192 + c / 64).toUInt8, (128 + c % 64).toUInt8] := by unfold encL; rw [if_neg (by omega), if_pos h2]
    rw [e] at hg hz
    simp only [List.dropLast, List.cons_append, List.nil_append, List.length_cons, List.length_nil] at hg hz
    have g0 := hg 0 _ rfl
    rw [Nat.add_zero] at g0
    rw [g0, enc_byte (by omega)]
    refine ⟨by omega, ?_⟩
    unfold Lib.decodeN
    rcases hr with rfl | ⟨u, t, rfl, hu⟩
    · have hn : ¬ 1 < s.size - l.length := by simp at hz; omega
      rw [if_neg (by omega), if_neg (fun h => hn h.2.1), if_neg (fun h => hn h.2.1.1), if_neg (fun h => hn h.2.1.1)]
    · rw [hg 1 u rfl, if_neg (by omega), if_neg (fun h => hu h.2.2), if_neg (fun h => hu h.2.1.2), if_neg (fun h => hu h.2.1.2)]
  by_cases h3 : c < 65536
  · have e : encL c = [(224 + c / 4096).toUInt8, (128 + c / 64 % 64).toUInt8, (128 + c % 64).toUInt8] := by unfold encL; rw [if_neg (by omega), if_neg h2, if_pos h3]
    rw [e] at hg hz
    simp only [List.dropLast, List.cons_append, List.nil_append, List.length_cons, List.length_nil] at hg hz
    have g0 := hg 0 _ rfl
    rw [Nat.add_zero] at g0
    rw [g0, enc_byte (by omega)]
    refine ⟨by omega, ?_⟩
    unfold Lib.decodeN
    rcases hr with rfl | ⟨u, t, rfl, hu⟩
    · have hn : ¬ 2 < s.size - l.length := by simp at hz; omega
      rw [if_neg (by omega), if_neg (by omega), if_neg (fun h => hn h.2.2.1), if_neg (by omega)]
    · rw [hg 2 u rfl, if_neg (by omega), if_neg (by omega), if_neg (fun h => hu h.2.2.2), if_neg (by omega)]
  · have e : encL c = [(240 + c / 262144).toUInt8, (128 + c / 4096 % 64).toUInt8, (128 + c / 64 % 64).toUInt8, (128 + c % 64).toUInt8] := by unfold encL; rw [if_neg (by omega), if_neg h2, if_neg h3]
    rw [e] at hg hz
    simp only [List.dropLast, List.cons_append, List.nil_append, List.length_cons, List.length_nil] at hg hz
    have g0 := hg 0 _ rfl
    rw [Nat.add_zero] at g0
    rw [g0, enc_byte (by omega)]
    refine ⟨by omega, ?_⟩
    unfold Lib.decodeN
    rcases hr with rfl | ⟨u, t, rfl, hu⟩
    · have hn : ¬ 3 < s.size - l.length := by simp at hz; omega
      rw [if_neg (by omega), if_neg (by omega), if_neg (by omega), if_neg (fun h => hn h.2.2.2.1)]
    · rw [hg 3 u rfl, if_neg (by omega), if_neg (by omega), if_neg (by omega), if_neg (fun h => hu h.2.2.2.2)]
theorem glyphs_bad (w : World) (hT : Tabs w) (s : ByteArray) (cs : List Nat) (hc : ∀ c ∈ cs, Cod c) (r : List UInt8) (h : s.data.toList = encs cs ++ r) (hs : s.size ≤ 4096) (hd : (encs cs).length < s.size ∧ Utf8.decode s (encs cs).length = (65533, 1)) :
    Calls Tryd.prog 20 #[.string s] w fun e w' => Below w.heap.size w w' ∧ e = .returned (.tuple #[.slice none 0 0, .int .i64 40, (adv pl0 cs).v]) := by
  have hb : (adv pl0 cs).b = (encs cs).length := by rw [adv_b]; simp [pl0]
  have hS := snd_encs s cs hc [] r pl0 rfl (by rw [h]; simp) (.inr (by simpa [pl0] using hd))
  refine (glyphs_short w s hT hs).mono ?_
  rintro e w' ⟨hbl, gs, e2, h1, h2⟩
  obtain ⟨rfl, rfl⟩ := h1.one hS
  rcases h2 with ⟨_, h2⟩ | ⟨h2, _⟩
  · exact ⟨hbl, h2⟩
  · omega
theorem glyphs_cs (w : World) (hT : Tabs w) (cs : List Nat) (hc : ∀ c ∈ cs, Cod c) (hs : (encs cs).length ≤ 4096) :
    Calls Tryd.prog 20 #[.string (bts (encs cs))] w fun e w' => Below w.heap.size w w' ∧ ∃ v, e = .returned (.tuple #[v, .int .i64 0, plz.v]) ∧ w'.ownsRow w.heap.size 46 6 v (glf pl0 cs).length (gflat (glf pl0 cs)) := by
  have hd : (bts (encs cs)).data.toList = encs cs := by simp [bts]
  have hS := snd_encs (bts (encs cs)) cs hc [] [] pl0 rfl (by rw [hd]; simp) (.inl rfl)
  refine (glyphs_short w _ hT (by rw [bts_size]; exact hs)).mono ?_
  rintro e w' ⟨hbl, gs, e2, h1, h2⟩
  obtain ⟨rfl, rfl⟩ := h1.one hS
  rcases h2 with ⟨h2, _⟩ | ⟨_, v, h3, h4⟩
  · exfalso
    rw [bts_size, adv_b] at h2
    simp [pl0] at h2
  · exact ⟨hbl, v, h3, h4⟩
theorem Nums.blw {w w' : World} {v : Value} {zs : List Int} (h : Nums w v zs) (hb : Below w.heap.size w w') : Nums w' v zs := Ce.below h hb
theorem infoI : (Tryd.prog.info? 3).map (fun i => (i.zero, i.size, i.bytes)) = some (some (.int .i64 0), 1, 8) := by kernel_rfl
theorem encs_ge (cs : List Nat) : cs.length ≤ (encs cs).length := by
  induction cs with
  | nil => simp
  | cons c cs ih => have := encL_pos c; simp only [encs, List.length_append, List.length_cons]; omega
theorem decode_none (s : ByteArray) (l r : List UInt8) (h : s.data.toList = l ++ 255 :: r) : l.length < s.size ∧ Utf8.decode s l.length = (65533, 1) := by
  have hz : s.size = l.length + r.length + 1 := by
    have : s.data.toList.length = s.size := rfl
    rw [← this, h]; simp; omega
  have g0 := get!_list s l (255 :: r) [] (by rw [h]; simp) 0 255 rfl
  rw [Nat.add_zero] at g0
  have g1 : (255 : UInt8).toNat = 255 := rfl
  rw [Lib.decode_at, g0, g1]
  refine ⟨by omega, ?_⟩
  unfold Lib.decodeN
  rw [if_neg (by omega), if_neg (by omega), if_neg (by omega), if_neg (by omega)]
theorem codes_split {cs : List Nat} {k c : Nat} (h : cs[k]? = some c) : encs cs = encs (cs.take k) ++ (encL c ++ encs (cs.drop (k + 1))) := by
  obtain ⟨hk, rfl⟩ := List.getElem?_eq_some_iff.1 h
  have e : cs = cs.take k ++ (cs[k] :: cs.drop (k + 1)) := by rw [List.getElem_cons_drop, List.take_append_drop]
  have e2 : encs cs = encs (cs.take k ++ (cs[k] :: cs.drop (k + 1))) := by rw [← e]
  rw [e2, encs_append]
  rfl
theorem PlB.at {W w' : World} {f : Nat} {p : Pl} (hb : Below W.heap.size W w') (h : PlB W f p) : PlB w' f p := h.below hb
theorem PlB.free {w : World} {f : Nat} {p : Pl} (h : PlB w f p) (i : Nat) : w.frozen? ⟨f, i, none⟩ = false := frozen_of_row w f i _ _ h
theorem PlB.four {w : World} {f fa : Nat} {p : Pl} (h : PlB w fa p) (hf : fa + 1 ≤ f) (a b c d : Value) : PlB ((((w.setCell ⟨f, 0, none⟩ a).setCell ⟨f, 1, none⟩ b).setCell ⟨f, 2, none⟩ c).setCell ⟨f, 3, none⟩ d) fa p := by
  have hb : Below (fa + 1) w ((((w.setCell ⟨f, 0, none⟩ a).setCell ⟨f, 1, none⟩ b).setCell ⟨f, 2, none⟩ c).setCell ⟨f, 3, none⟩ d) := ((((Below.refl _ _).setCell (p := ⟨f, 0, none⟩) hf _).setCell (p := ⟨f, 1, none⟩) hf _).setCell (p := ⟨f, 2, none⟩) hf _).setCell (p := ⟨f, 3, none⟩) hf _
  exact (hb.block fa (Nat.lt_succ_self _)).trans h
def BadG (X : ByteArray) (P : Pl) : Prop := ∀ W, Tabs W → Calls Tryd.prog 20 #[.string X] W fun e w' => Below W.heap.size W w' ∧ e = .returned (.tuple #[.slice none 0 0, .int .i64 40, P.v])
theorem codes_one (cs : List Nat) (hc : ∀ c ∈ cs, Cod c) (hl : cs.length ≤ 1000) (k c : Nat) (hk : cs[k]? = some c) (P : Pl) (hP : adv pl0 (cs.take k) = P) (S : ByteArray) (hS : bts (encs cs) = S) :
    ∃ A R X1 X : ByteArray, P.b ≤ S.size ∧ S.extract 0 P.b = A ∧ S.extract P.b S.size = R ∧ (∀ w, (Op.stringOp .add A ⟨#[255]⟩).run Tryd.prog w = .ok (.string X1) w) ∧ (∀ w, (Op.stringOp .add X1 R).run Tryd.prog w = .ok (.string X) w) ∧ BadG X P := by
  subst hP hS
  have hsp := codes_split hk
  have hb : (adv pl0 (cs.take k)).b = (encs (cs.take k)).length := by rw [adv_b]; simp [pl0]
  have hd : (bts (encs cs)).data.toList = encs (cs.take k) ++ (encL c ++ encs (cs.drop (k + 1))) := by rw [← hsp]; simp [bts]
  have hz : (encs cs).length = (encs (cs.take k)).length + (encL c ++ encs (cs.drop (k + 1))).length := by rw [hsp, List.length_append]
  have h4 := encs_len cs
  have hA := extract_low _ _ _ hd
  have hR := extract_high _ _ _ hd
  rw [hb]
  have hct : ∀ c ∈ cs.take k, Cod c := fun d hd => hc d (List.mem_of_mem_take hd)
  generalize encL c ++ encs (cs.drop (k + 1)) = r at *
  have hXd : (bts (encs (cs.take k)) ++ ⟨#[255]⟩ ++ bts r).data.toList = encs (cs.take k) ++ 255 :: r := by simp [bts]
  have hXz : (bts (encs (cs.take k)) ++ ⟨#[255]⟩ ++ bts r).size = (encs (cs.take k)).length + 1 + r.length := by
    have : (bts (encs (cs.take k)) ++ ⟨#[255]⟩ ++ bts r).data.toList.length = (bts (encs (cs.take k)) ++ ⟨#[255]⟩ ++ bts r).size := rfl
    rw [← this, hXd, List.length_append, List.length_cons]; omega
  refine ⟨_, _, bts (encs (cs.take k)) ++ ⟨#[255]⟩, bts (encs (cs.take k)) ++ ⟨#[255]⟩ ++ bts r, by rw [bts_size]; omega, hA, hR, fun w => ?_, fun w => ?_, fun W hW => ?_⟩
  · exact run_string_add_sum (P := Tryd.prog) w _ _ (by rw [bts_size]; show _ + 1 ≤ _; omega)
  · exact run_string_add_sum (P := Tryd.prog) w _ _ (by rw [ByteArray.size_append, bts_size, bts_size]; show _ + 1 + _ ≤ _; omega)
  · exact glyphs_bad W hW _ (cs.take k) hct (255 :: r) hXd (by rw [hXz]; omega) (decode_none _ _ _ hXd)
theorem codes_two (cs : List Nat) (hc : ∀ c ∈ cs, Cod c) (hl : cs.length ≤ 1000) (k c : Nat) (hk : cs[k]? = some c) (hc2 : 128 ≤ c) (P : Pl) (hP : adv pl0 (cs.take k) = P) (S : ByteArray) (hS : bts (encs cs) = S) (m : Nat) (hm : (encL c).length = m) :
    ∃ A R X : ByteArray, P.b + m ≤ S.size ∧ S.extract 0 (P.b + m - 1) = A ∧ S.extract (P.b + m) S.size = R ∧ (∀ w, (Op.stringOp .add A R).run Tryd.prog w = .ok (.string X) w) ∧ BadG X P := by
  subst hP hS hm
  have hsp := codes_split hk
  have hb : (adv pl0 (cs.take k)).b = (encs (cs.take k)).length := by rw [adv_b]; simp [pl0]
  have hp := encL_pos c
  have hcc : c ≤ 1114111 := (hc c (List.mem_of_getElem? hk)).1
  have hcr : encs (cs.drop (k + 1)) = [] ∨ ∃ u t, encs (cs.drop (k + 1)) = u :: t ∧ u.toNat / 64 ≠ 2 := by
    cases hr : cs.drop (k + 1) with
    | nil => exact .inl rfl
    | cons d t =>
      obtain ⟨u, t2, e1, e2⟩ := encL_head d (hc d (List.mem_of_mem_drop (i := k + 1) (by rw [hr]; simp))).1
      exact .inr ⟨u, t2 ++ encs t, by simp only [encs, e1, List.cons_append], e2⟩
  have hne : encL c ≠ [] := by intro h; rw [h] at hp; simp at hp
  have hdl : (encL c).dropLast ++ [(encL c).getLast hne] = encL c := List.dropLast_concat_getLast hne
  have hdz : (encL c).dropLast.length = (encL c).length - 1 := List.length_dropLast
  have hd1 : (bts (encs cs)).data.toList = (encs (cs.take k) ++ (encL c).dropLast) ++ ([(encL c).getLast hne] ++ encs (cs.drop (k + 1))) := by
    rw [List.append_assoc, ← List.append_assoc (encL c).dropLast, hdl, ← hsp]; simp [bts]
  have hd2 : (bts (encs cs)).data.toList = (encs (cs.take k) ++ encL c) ++ encs (cs.drop (k + 1)) := by rw [List.append_assoc, ← hsp]; simp [bts]
  have hz : (encs cs).length = (encs (cs.take k)).length + (encL c).length + (encs (cs.drop (k + 1))).length := by rw [hsp, List.length_append, List.length_append]; omega
  have h4 := encs_len cs
  have hA := extract_low _ _ _ hd1
  have hR := extract_high _ _ _ hd2
  rw [List.length_append, hdz] at hA
  rw [List.length_append] at hR
  rw [hb]
  have hct : ∀ c ∈ cs.take k, Cod c := fun d hd => hc d (List.mem_of_mem_take hd)
  have e1 : (encs (cs.take k)).length + (encL c).length - 1 = (encs (cs.take k)).length + ((encL c).length - 1) := by omega
  rw [e1]
  have hXd : (bts (encs (cs.take k) ++ (encL c).dropLast) ++ bts (encs (cs.drop (k + 1)))).data.toList = encs (cs.take k) ++ (encL c).dropLast ++ encs (cs.drop (k + 1)) := by simp [bts]
  have hXz : (bts (encs (cs.take k) ++ (encL c).dropLast) ++ bts (encs (cs.drop (k + 1)))).size = (encs (cs.take k)).length + (encL c).dropLast.length + (encs (cs.drop (k + 1))).length := by
    have : (bts (encs (cs.take k) ++ (encL c).dropLast) ++ bts (encs (cs.drop (k + 1)))).data.toList.length = (bts (encs (cs.take k) ++ (encL c).dropLast) ++ bts (encs (cs.drop (k + 1)))).size := rfl
    rw [← this, hXd, List.length_append, List.length_append]
  refine ⟨_, _, _, by rw [bts_size]; omega, hA, hR, fun w => run_string_add_sum (P := Tryd.prog) w _ _ (by rw [bts_size, bts_size, List.length_append]; omega), fun W hW => ?_⟩
  exact glyphs_bad W hW _ (cs.take k) hct ((encL c).dropLast ++ encs (cs.drop (k + 1))) (by rw [hXd, List.append_assoc]) (by rw [hXz]; omega) (decode_cut _ _ _ c hc2 hcc hXd hcr)
theorem enters_glyphs (args : Array Value) (w : World) : (callFunc 20 args).run Tryd.prog w = .ok (.enter 20 args) w := by
  have h : (match Tryd.prog.funcs[20]? with | some fn => !(fn.name == "runtime.NumGoroutine") && fn.body.isSome | none => false) = true := by kernel_rfl
  cases hf : Tryd.prog.funcs[20]? with
  | none => rw [hf] at h; simp at h
  | some fn =>
    rw [hf] at h
    simp only [Bool.and_eq_true, Bool.not_eq_true', beq_eq_false_iff_ne] at h
    obtain ⟨h1, h2⟩ := h
    have h3 : fn.body ≠ none := by intro hb; rw [hb] at h2; simp at h2
    simp [callFunc, hf, h1, h3]
theorem step_glyphs {ops : Array Oper} {o : Oper} {a : Act} {w : World} {K : Act → World → Prop} {Q : Exit → Act → World → Prop} {E : Prop} (hg : o.guard = none) (x : Operand) (ats : Array TypeId)
    (hop : o.op = .call { callee := .value (.func 20), args := #[x], argTypes := ats }) (X : ByteArray) (P : Pl) (hx : a.eval x = .string X) (hB : BadG X P) (hT : Tabs w) (hK : ∀ w', Below w.heap.size w w' → K (a.put o.dst (.tuple #[.slice none 0 0, .int .i64 40, .agg #[.int .i64 P.b, .int .i64 P.g, .int .i64 P.l, .int .i64 P.c]])) w') :
    if Region.wanted o (yielded ops a.tmps) = true then Oper.wp Tryd.prog o a w K Q else E := by
  obtain ⟨dst, op, ty, pos, after, guard⟩ := o
  simp only at hop hg
  subst hop hg
  have hw : Region.wanted { dst, op := .call { callee := .value (.func 20), args := #[x], argTypes := ats }, type := ty, pos, after, guard := none } (yielded ops a.tmps) = true := by simp [Region.wanted]
  rw [if_pos hw]
  have e : execOp a.eval { dst, op := .call { callee := .value (.func 20), args := #[x], argTypes := ats }, type := ty, pos, after, guard := none } = callFunc 20 (#[] ++ #[x].map a.eval ++ #[]) := rfl
  unfold Oper.wp
  rw [e, enters_glyphs]
  simp only [Oper.upon]
  have e2 : (#[] ++ #[x].map a.eval ++ #[] : Array Value) = #[.string X] := by simp [hx]
  rw [e2]
  refine (hB w hT).mono ?_
  rintro r w' ⟨hb, rfl⟩
  exact hK w' hb
set_option maxRecDepth 20000 in
set_option maxHeartbeats 4000000 in
theorem glyphcodes_any (w : World) (hT : Tabs w) (v : Value) (zs : List Int) (hv : Nums w v zs) (q : Int) :
    Calls Tryd.prog 5 #[v, .int .i64 q] w fun r w' => r = .returned (.bool true) ∧ Below w.heap.size w w' := by
  have HT := hide hT
  clear hT
  obtain ⟨n, hn⟩ : ∃ n, zs.length = n := ⟨_, rfl⟩
  have hvs : ∃ ao cap, v = .slice ao n cap := by
    obtain ⟨ao, cap, h, _⟩ := hv
    exact ⟨ao, cap, by rw [h, hn]⟩
  obtain ⟨ao, cap, rfl⟩ := hvs
  have hnb := hv.parts.2
  have HV := hide hv
  have HN := hide hn
  clear hv hn
  go_enter Tryd.func5, Tryd.ntmps5
  go_wp2_with fail
  refine (gawake_any w HT.out).mono ?_
  rintro r w1 ⟨rfl, hb1⟩
  have HB1 := hide hb1
  have HV1 := hide (Nums.blw HV.out hb1)
  clear hb1 HV
  obtain ⟨B, hB⟩ : ∃ B, w1.heap.size = B := ⟨_, rfl⟩
  have HBB := hide hB
  clear hB
  go_wp2_with fail
  obtain ⟨i0, hi0, hz0, hz1, hz2⟩ := info_is infoI
  go_loopw [5, 6, 7] (fun sv tv iv wr => ∃ (cs : List Nat) (i : Nat) (ta : Option Addr) (tc : Nat), sv = .string (bts (encs cs)) ∧ tv = .slice ta cs.length tc ∧ iv = .int .i64 i ∧ i ≤ n ∧ i ≤ 1000 ∧ cs.length ≤ i ∧ (∀ c ∈ cs, Cod c) ∧ wr.ownsRow B 3 1 (.slice ta cs.length tc) cs.length (cs.map fun (c : Nat) => Value.int .i64 (c : Int)) ∧ Below w1.heap.size w1 wr) (fun _ _ iv _ => n - (intOf iv).toNat)
  case atStart => exact ⟨[], 0, none, 0, rfl, rfl, rfl, Nat.zero_le _, by omega, Nat.le_refl _, by simp, World.ownsRow_nil _ _ _ _, Below.refl _ _⟩
  case round =>
    obtain ⟨cs, i, ta, tc, rfl, rfl, rfl, hi, hi2, hcl, hcd, hown, hbw⟩ := hrel
    have HOWN := hide hown
    have HW := hide hbw
    have HCD := hide hcd
    have hez := encs_len cs
    clear hcd
    by_cases hlt : i < n ∧ i < 1000
    · obtain ⟨hlt, hlt2⟩ := hlt
      have hlt' : (i : Int) < (n : Int) := by omega
      have hlt2' : (i : Int) < 1000 := by omega
      obtain ⟨b, off, rfl, hc⟩ := (Nums.blw HV1.out hbw).cell (i := i) (by have := HN.out; omega)
      obtain ⟨z, hzz⟩ : ∃ z, zs[i]'(by have := HN.out; omega) = z := ⟨_, rfl⟩
      rw [hzz] at hc
      obtain ⟨c, hcz, hcb⟩ : ∃ c : Nat, (bits .and .i64 z 4611686018427387903).tmod 1114112 = (c : Int) ∧ c < 1114112 := by
        have h1 := and_mask z
        have h2 := Int.tmod_nonneg 1114112 h1.1
        have h3 := Int.tmod_lt_of_pos (bits .and .i64 z 4611686018427387903) (show (0 : Int) < 1114112 by omega)
        exact ⟨((bits .and .i64 z 4611686018427387903).tmod 1114112).toNat, by omega, by omega⟩
      clear hown hzz
      by_cases hsur : c < 55296 ∨ 57343 < c
      · have hcod : Cod c := ⟨by omega, hsur⟩
        have hep := encL_pos c
        have hadd : ∀ w, (Op.stringOp .add (bts (encs cs)) ⟨(encL c).toArray⟩).run Tryd.prog w = .ok (.string (bts (encs (cs ++ [c])))) w := by
          intro w
          rw [encs_snoc, ← bts_append]
          exact run_string_add_sum (P := Tryd.prog) w _ (bts (encL c)) (by rw [bts_size, bts_size]; omega)
        have HCOD := hide hcod
        have KB := hide (fun (W : World) => bytes_enc W c (by omega))
        generalize (⟨(encL c).toArray⟩ : ByteArray) = E at hadd KB
        generalize hS : bts (encs cs) = S at hadd ⊢
        generalize hS2 : bts (encs (cs ++ [c])) = S2 at hadd
        have HS2 := hide hS2
        have hpath : (∃ _ : (c : Int) < 55296, True) ∨ (∃ (_ : decide ((c : Int) < 55296) = false) (_ : (57343 : Int) < (c : Int)), True) := by
          rcases hsur with h | h
          · exact .inl ⟨by omega, trivial⟩
          · by_cases h2 : c < 55296
            · exact .inl ⟨by omega, trivial⟩
            · exact .inr ⟨by simp; omega, by omega, trivial⟩
        clear hcod hep hez hS hS2 hsur
        have hsz : B ≤ wr.heap.size := by have := HBB.out; have := hbw.size; omega
        have hone : ∀ u ∈ ([.int .i64 (c : Int)] : List Value), u.oneCell' = true := by
          intro u hu
          simp only [List.mem_singleton] at hu
          subst hu
          rfl
        rcases hpath with ⟨m1, _⟩ | ⟨m1, m2, _⟩
        all_goals (
          go_wp2_with fail
          refine (KB.out _).mono ?_
          rintro r w2 ⟨rfl, hb2⟩
          have hbA : Below w2.heap.size w2 (w2.alloc (.cells #[.int .i64 (c : Int)] 3)) := (Below.refl _ _).alloc (Nat.le_refl _) _
          have hown2 := own_below (own_below HOWN.out hb2) hbA
          have hs2 := hb2.size
          go_wp2_with (at_builtin; refine wpList_append_lies _ rfl (.tmp 46) (.tmp 48) 40 rfl B 3 i0 _ 1 8 Tryd.underlying40 hi0 hz0 hz1 hz2 rfl (by decide) (.slice ta cs.length tc) cs.length (cs.map fun (c : Nat) => Value.int .i64 (c : Int)) (by simp [Act.eval]) hown2 ⟨w2.heap.size, 0, none⟩ 1 1 [.int .i64 (c : Int)] (by simp [Act.eval]) rfl (World.news_of_block (heap_alloc_new w2 (.cells #[.int .i64 (c : Int)] 3))) hone (by omega) (by unfold maxLen; omega) (by omega) (by simp [World.size_alloc]; omega) _ rfl ?_; intro g1 cap1 w5 hown5 hgrow5 hat5 hlt5)
          have hB5 : Below w1.heap.size w1 w5 := by
            have h1 := HW.out.trans ((hb2.trans (hbA.mono hb2.size)).mono HW.out.size)
            refine h1.grown hgrow5 (by have := h1.size; omega) (fun k hk => ?_)
            obtain ⟨hl, ⟨h2, _⟩ | ⟨b2, cap2, cur2, h2, hbb2, hh2, _⟩⟩ := HOWN.out
            · rw [h2] at hk; simp [Value.ownBlock] at hk
            · rw [h2] at hk
              simp only [Value.ownBlock, Option.some.injEq] at hk
              have := HBB.out
              omega
          have HB5 := hide hB5
          have ho5 : w5.ownsRow B 3 1 (.slice (some ⟨g1, 0, none⟩) (cs.length + 1) cap1) (cs.length + 1) ((cs ++ [c]).map fun (c : Nat) => Value.int .i64 (c : Int)) := by
            simpa using hown5
          have HO5 := hide ho5
          clear hown5 hgrow5 hat5 hlt5 hown2 hbA hb2 hB5 ho5
          go_wp2
          go_roundw
          case rel =>
            refine ⟨cs ++ [c], i + 1, some ⟨g1, 0, none⟩, cap1, by rw [HS2.out], by simp, by go_num, by omega, by omega, by simp; omega, ?_, ?_, HB5.out⟩
            · intro d hd
              rcases List.mem_append.1 hd with hd | hd
              · exact HCD.out d hd
              · simp at hd; subst hd; exact HCOD.out
            · have := HO5.out
              simpa using this
          case measure => simp [intOf]; omega)
      · have m1 : decide ((c : Int) < 55296) = false := by simp; omega
        have m2 : decide ((57343 : Int) < (c : Int)) = false := by simp; omega
        clear hsur
        go_wp2
        go_roundw
        case rel => exact ⟨cs, i + 1, ta, tc, rfl, rfl, by go_num, by omega, by omega, by omega, HCD.out, HOWN.out, HW.out⟩
        case measure => simp [intOf]; omega
    · have hpath : (∃ _ : decide ((i : Int) < (n : Int)) = false, True) ∨ (∃ (_ : (i : Int) < (n : Int)) (_ : decide ((i : Int) < 1000) = false), True) := by
        by_cases h : i < n
        · exact .inr ⟨by omega, by simp; omega, trivial⟩
        · exact .inl ⟨by simp; omega, trivial⟩
      have hge := encs_ge cs
      have hc1000 : cs.length ≤ 1000 := by omega
      have K1 := hide (fun (W : World) (h : Tabs W) => glyphs_cs W h cs HCD.out (by omega))
      have HWw := hide (HB1.out.trans (HW.out.mono HB1.out.size))
      have HNu : Hid (Nums wr (.slice ta cs.length tc) (cs.map Int.ofNat)) := by
        have := Ce.own HOWN.out
        show Nums _ _ _
        unfold Nums
        rw [List.length_map, List.map_map]
        exact this
      clear hlt hown hbw hez hi hi2 hcl HV1 hi0 hz0 hz1 hz2
      obtain ⟨L, hL⟩ : ∃ L, cs.length = L := ⟨_, rfl⟩
      have HL := hide hL
      rw [hL] at hc1000
      simp only [hL] at HNu ⊢
      generalize hS : bts (encs cs) = S at K1 ⊢
      have HS := hide hS
      clear hL hS HOWN
      obtain ⟨I, hI⟩ : ∃ I : Int, (i : Int) = I := ⟨_, rfl⟩
      rw [hI] at hpath ⊢
      clear hI
      rcases hpath with ⟨m1, _⟩ | ⟨m1, m2, _⟩
      all_goals (
        go_wp2_with fail
        refine (K1.out wr (HT.out.below HWw.out)).mono ?_
        rintro r w2 ⟨hb2, v2, rfl, hown2⟩
        obtain ⟨a2, c2, rfl⟩ := own_slice hown2
        have hGs : Gs w2 (.slice a2 (glf pl0 cs).length c2) (glf pl0 cs) := Ce.own hown2
        rw [glf_len, HL.out] at hGs
        simp only [glf_len, HL.out]
        have HG := hide hGs
        have HB2 := hide (HWw.out.trans (hb2.mono HWw.out.size))
        have HNu2 := hide (Nums.blw HNu.out hb2)
        clear hown2 hGs hb2
        unfold Pl.v
        simp only [plz]
        go_wp2_with fail
        have hbA : Below w2.heap.size w2 (w2.alloc (.cells #[.int .i64 0, .int .i64 0, .int .i64 0, .int .i64 0] 25)) := (Below.refl _ _).alloc (Nat.le_refl _) _
        have HG3 := hide (Ce.below HG.out hbA)
        have HNu3 := hide (Nums.blw HNu2.out hbA)
        have HB3 := hide (HB2.out.trans (hbA.mono HB2.out.size))
        clear hbA HG HNu2 HB2
        generalize w2.alloc (.cells #[.int .i64 0, .int .i64 0, .int .i64 0, .int .i64 0] 25) = w3 at HG3 HNu3 HB3 ⊢
        have HLm : Hid ((cs.map Int.ofNat).length = L) := by rw [List.length_map]; exact HL.out
        have hsz3 : ∃ B3, w3.heap.size = B3 := ⟨_, rfl⟩
        clear K1
        go_loopw [12] (fun iv wr => ∃ (j : Nat), iv = .int .i64 j ∧ j ≤ L ∧ Below w3.heap.size w3 wr) (fun iv _ => L - (intOf iv).toNat)
        case atStart => exact ⟨0, rfl, Nat.zero_le _, Below.refl _ _⟩
        case round =>
          obtain ⟨j, rfl, hj, hbw⟩ := hrel
          have HW4 := hide hbw
          by_cases hjl : j < L
          · have hcj : cs[j]? = some (cs[j]'(by rw [HL.out]; exact hjl)) := List.getElem?_eq_getElem _
            obtain ⟨bg, og, rfl, gg⟩ := Gs.glyph (gs := glf pl0 cs) HG3.out (glf_at pl0 cs j _ hcj)
            obtain ⟨bn, on, rfl, cn⟩ := (Nums.blw HNu3.out hbw).cell (i := j) (by rw [HLm.out]; exact hjl)
            obtain ⟨_, g0, _, _, _, _, _⟩ := gg.below hbw
            rw [List.getElem_map] at cn
            simp only [Int.ofNat_eq_natCast] at cn
            generalize cs[j]'(by rw [HL.out]; exact hjl) = c at cn g0
            have hlt' : (j : Int) < (L : Int) := by omega
            have hkk : ((c : Int) != (c : Int)) = false := by simp
            clear hcj gg hbw hge m1
            go_wp2_with fail
            go_quiet (fail)
            go_wp2
            go_roundw
            case rel =>
              refine ⟨_, _, _, _, _, _, _, _, _, _, _, _, _, _, _, _, _, _, ⟨j + 1, ?_, by omega, gdrewN HW4.out nq⟩, rfl⟩
              go_num
            case measure => simp [intOf]; omega
          · have hlt' : decide ((j : Int) < (L : Int)) = false := by simp; omega
            have HB4 := hide (HB3.out.trans (hbw.mono HB3.out.size))
            have HG4 := hide (Ce.below HG3.out hbw)
            have HNu4 := hide (Nums.blw HNu3.out hbw)
            clear hbw HW4 HG3 HNu3 HB3 m1 hge hjl hj
            obtain ⟨J, hJ⟩ : ∃ J : Int, (j : Int) = J := ⟨_, rfl⟩
            rw [hJ] at hlt' ⊢
            clear hJ
            by_cases hL0 : L = 0
            · have hL0' : ((L : Int) == 0) = true := by simp; omega
              clear hL0
              go_wp2
              go_ret
              exact ⟨by rfl, HB4.out⟩
            · have hL0' : ((L : Int) == 0) = false := by simp; omega
              have hL0n : (L : Int) ≠ 0 := by omega
              obtain ⟨k, hkz, hkl⟩ : ∃ k : Nat, (bits .and .i64 q 4611686018427387903).tmod L = (k : Int) ∧ k < L := by
                have h1 := and_mask q
                have h2 := Int.tmod_nonneg (L : Int) h1.1
                have h3 := Int.tmod_lt_of_pos (bits .and .i64 q 4611686018427387903) (show (0 : Int) < L by omega)
                exact ⟨((bits .and .i64 q 4611686018427387903).tmod L).toNat, by omega, by omega⟩
              have hkl' : (k : Int) < (L : Int) := by omega
              have hck : cs[k]? = some (cs[k]'(by rw [HL.out]; exact hkl)) := List.getElem?_eq_getElem _
              obtain ⟨bg, og, rfl, gg⟩ := Gs.glyph (gs := glf pl0 cs) HG4.out (glf_at pl0 cs k _ hck)
              obtain ⟨bn, on, rfl, cn⟩ := HNu4.out.cell (i := k) (by rw [HLm.out]; exact hkl)
              rw [List.getElem_map] at cn
              simp only [Int.ofNat_eq_natCast] at cn
              have HCN := hide cn
              obtain ⟨hbg, g0, g1, g2, g3, g4, g5⟩ := gg
              generalize cs[k]'(by rw [HL.out]; exact hkl) = c at HCN hck
              have HCK := hide hck
              obtain ⟨P, hP⟩ : ∃ P, adv pl0 (cs.take k) = P := ⟨_, rfl⟩
              simp only [hP] at g2 g3 g4 g5
              have HP := hide hP
              obtain ⟨A, R, X1, X, hPS, hA, hR, hX1, hX, hBad⟩ := codes_one cs HCD.out (by have := HL.out; omega) k c HCK.out P HP.out S HS.out
              have HBad := hide hBad
              have HX := hide (show (∀ w, (Op.stringOp .add A ⟨#[255]⟩).run Tryd.prog w = .ok (.string X1) w) ∧ (∀ w, (Op.stringOp .add X1 R).run Tryd.prog w = .ok (.string X) w) ∧ S.extract 0 P.b = A ∧ S.extract P.b S.size = R from ⟨hX1, hX, hA, hR⟩)
              have hPS' : (P.b : Int) ≤ (S.size : Int) := by omega
              clear hck hP cn g0 g1 hBad hX1 hX hA hR
              go_wp2_with fail
              have hbA : Below wr.heap.size wr (wr.alloc (.cells #[.int .i64 P.b, .int .i64 P.g, .int .i64 P.l, .int .i64 P.c] 25)) := (Below.refl _ _).alloc (Nat.le_refl _) _
              have HB5 := hide (HB4.out.trans (hbA.mono HB4.out.size))
              have HPl := hide (show PlB (wr.alloc (.cells #[.int .i64 P.b, .int .i64 P.g, .int .i64 P.l, .int .i64 P.c] 25)) wr.heap.size P from heap_alloc_new wr _)
              have HCN5 := hide (show (wr.alloc (.cells #[.int .i64 P.b, .int .i64 P.g, .int .i64 P.l, .int .i64 P.c] 25)).cell? ⟨bn, on + k, none⟩ = some (.int .i64 c) from (hbA.cell (p := ⟨bn, on + k, none⟩) (Go.block_lt_of_cell HCN.out)).trans HCN.out)
              clear hbA g2 g3 g4 g5
              generalize wr.alloc (.cells #[.int .i64 P.b, .int .i64 P.g, .int .i64 P.l, .int .i64 P.c] 25) = w5 at HB5 HPl HCN5 ⊢
              generalize wr.heap.size = fa at HPl ⊢
              go_cut [10, 16] (fun ev bv wx => ∃ f, ev = .int .i64 40 ∧ bv = .pointer (some ⟨f, 0, none⟩) ∧ PlB wx f P ∧ Below w5.heap.size w5 wx ∧ w5.heap.size ≤ f)
              case first =>
                obtain ⟨hX1, hX, hA, hR⟩ := HX.out
                obtain ⟨hfa, p0, _, _, _⟩ := PlB.cells HPl.out
                go_region_law (refine step_glyphs rfl (.tmp 104) #[9] rfl X P (by simp [Act.eval, Act.put]) HBad.out (HT.out.below (HB5.out.trans ((show Below w5.heap.size w5 _ by repeat (first | exact Below.refl _ _ | refine Below.drew ?_ | refine Below.alloc ?_ (by simp) _)).mono HB5.out.size))) ?_; intro w6 hb6; have hb5 : Below w5.heap.size w5 w6 := (show Below w5.heap.size w5 _ by repeat (first | exact Below.refl _ _ | refine Below.drew ?_ | refine Below.alloc ?_ (by simp) _)).trans (hb6.mono (by simp)); first | (have hz : PlB w6 w5.heap.size plz := PlB.at hb6 (heap_alloc_new w5 _); obtain ⟨hz0, z0, z1, z2, z3⟩ := PlB.cells hz; simp only [plz] at z0 z1 z2 z3; have y0 := PlB.free hz 0; have y1 := PlB.free hz 1; have y2 := PlB.free hz 2; have y3 := PlB.free hz 3; have hz := hide hz) | skip)
                all_goals (
                  go_wp2_with fail
                  go_meet
                  first
                  | (have hzo := hz.out; exact ⟨_, rfl, rfl, (((hzo.set0 P.b _ rfl).set1 P.g _ rfl).set2 P.l _ rfl).set3 P.c _ rfl, (((hb5.setCell (Nat.le_refl _) _).setCell (Nat.le_refl _) _).setCell (Nat.le_refl _) _).setCell (Nat.le_refl _) _, Nat.le_refl _⟩)
                  | exact ⟨_, rfl, rfl, heap_alloc_new w6 _, hb5.alloc hb5.size _, hb5.size⟩)
              case rest =>
                obtain ⟨f, rfl, rfl, hpl, hbc, hfle⟩ := hcut
                have hfa5 := (PlB.cells HPl.out).1
                have HFA : Hid (w.heap.size ≤ f ∧ fa + 1 ≤ f) := ⟨Nat.le_trans HB5.out.size hfle, by omega⟩
                have HB6 := hide (HB5.out.trans (hbc.mono HB5.out.size))
                have HPf := hide hpl
                have HPa := hide (PlB.below HPl.out hbc)
                have HCN6 := hide (show wc.cell? ⟨bn, on + k, none⟩ = some (.int .i64 c) from (hbc.cell (p := ⟨bn, on + k, none⟩) (Go.block_lt_of_cell HCN5.out)).trans HCN5.out)
                obtain ⟨hf, f0, f1, f2, f3⟩ := hpl.cells
                obtain ⟨ha, a0, a1, a2', a3⟩ := HPa.out.cells
                clear hpl hbc hfle hfa5 HPl HCN5 HB5 HX HBad
                have hcc : c ≤ 1114111 := (HCD.out c (List.mem_of_getElem? HCK.out)).1
                have KB := hide (fun (W : World) => bytes_enc W c hcc)
                obtain ⟨m, hm⟩ : ∃ m, (encL c).length = m := ⟨_, rfl⟩
                have hEz : (⟨(encL c).toArray⟩ : ByteArray).size = m := by rw [← hm]; exact bts_size _
                have HM := hide hm
                have hm14 : 1 ≤ m ∧ m ≤ 4 ∧ (c < 128 → m = 1) ∧ (128 ≤ c → 1 < m) := by
                  rw [← hm]
                  unfold encL
                  refine ⟨?_, ?_, ?_, ?_⟩ <;> (repeat' split) <;> simp <;> omega
                clear hm
                generalize (⟨(encL c).toArray⟩ : ByteArray) = E at KB hEz
                go_wp2_with fail
                refine (sameplace_eq wc P).mono ?_
                rintro r w7 ⟨rfl, hb7⟩
                have HB7 := hide (HB6.out.trans (hb7.mono HB6.out.size))
                have HPf7 := hide (PlB.below HPf.out hb7)
                have HPa7 := hide (PlB.below HPa.out hb7)
                have hcn7 : w7.cell? ⟨bn, on + k, none⟩ = some (.int .i64 c) := (hb7.cell (p := ⟨bn, on + k, none⟩) (Go.block_lt_of_cell HCN6.out)).trans HCN6.out
                clear hf f0 f1 f2 f3 ha a0 a1 a2' a3 hb7 HB6 HPf HPa HCN6
                go_wp2_with fail
                refine (KB.out w7).mono ?_
                rintro r w8 ⟨rfl, hb8⟩
                have HB8 := hide (HB7.out.trans (hb8.mono HB7.out.size))
                have HPf8 := hide (PlB.below HPf7.out hb8)
                have HPa8 := hide (PlB.below HPa7.out hb8)
                clear hcn7 hb8 HB7 HPf7 HPa7
                by_cases hc1 : c < 128
                · have hm1 : ((E.size : Int) == 1) = true := by have := hm14.2.2.1 hc1; simp; omega
                  clear hm14 hEz
                  go_wp2
                  go_ret
                  exact ⟨by rfl, HB8.out⟩
                · have hm2 := hm14.2.2.2 (by omega)
                  have hm4 := hm14.2.1
                  have hm1 : ((E.size : Int) == 1) = false := by simp; omega
                  clear hm14
                  obtain ⟨A2, R2, X2, hPS2, hA2, hR2, hX2, hBad2⟩ := codes_two cs HCD.out (by have := HL.out; omega) k c HCK.out (by omega) P HP.out S HS.out m HM.out
                  have HBad2 := hide hBad2
                  obtain ⟨y1, hy1⟩ : ∃ y, P.b + m - 1 = y := ⟨_, rfl⟩
                  obtain ⟨y2, hy2⟩ : ∃ y, P.b + m = y := ⟨_, rfl⟩
                  rw [hy1] at hA2
                  have hE1 : (P.b : Int) + (m : Int) - 1 = (y1 : Int) := by omega
                  have hE2 : (P.b : Int) + (m : Int) = (y2 : Int) := by omega
                  have hE3 : (y2 : Int) - 1 = (y1 : Int) := by omega
                  rw [hy2] at hR2
                  have hPS2' : (y2 : Int) ≤ (S.size : Int) := by omega
                  have hPS3' : (y1 : Int) ≤ (S.size : Int) := by omega
                  have hSz : S.size ≤ 4000 := by
                    have h1 := encs_len cs
                    have h2 := HL.out
                    rw [← HS.out, bts_size]; omega
                  have hw1 : IntKind.i64.wrap (y2 : Int) = (y2 : Int) := by rw [IntKind.wrap_i64]; omega
                  have hw3 : IntKind.i64.wrap (y1 : Int) = (y1 : Int) := by rw [IntKind.wrap_i64]; omega
                  have HYY := hide (And.intro hy1 hy2)
                  obtain ⟨hf, f0, f1, f2, f3⟩ := HPf8.out.cells
                  obtain ⟨ha, a0, a1, a2', a3⟩ := HPa8.out.cells
                  have y0 := PlB.free HPf8.out 0
                  have y1' := PlB.free HPf8.out 1
                  have y2' := PlB.free HPf8.out 2
                  have y3 := PlB.free HPf8.out 3
                  clear hBad2 hy1 hy2
                  go_wp2_with fail
                  go_cut [10] (fun ev wx => ev = .int .i64 40 ∧ PlB wx f P ∧ PlB wx fa P ∧ Below w.heap.size w wx)
                  case first =>
                    go_region_law (refine step_glyphs rfl (.tmp 139) #[9] rfl X2 P (by simp [Act.eval, Act.put]) HBad2.out (HT.out.below (HB8.out.trans ((show Below w8.heap.size w8 _ by repeat (first | exact Below.refl _ _ | refine Below.drew ?_)).mono HB8.out.size))) ?_; intro w9 hb9; have hb9' : Below w8.heap.size w8 w9 := (show Below w8.heap.size w8 _ by repeat (first | exact Below.refl _ _ | refine Below.drew ?_)).trans hb9; have hz := hide (PlB.below HPf8.out hb9'); obtain ⟨hz0, z0, z1, z2, z3⟩ := PlB.cells hz.out; have x0 := PlB.free hz.out 0; have x1 := PlB.free hz.out 1; have x2 := PlB.free hz.out 2; have x3 := PlB.free hz.out 3)
                    all_goals (
                      go_wp2_with fail
                      go_meet
                      exact ⟨rfl, (((hz.out.set0 P.b _ rfl).set1 P.g _ rfl).set2 P.l _ rfl).set3 P.c _ rfl, PlB.four (PlB.below HPa8.out hb9') HFA.out.2 _ _ _ _, ((((HB8.out.trans (hb9'.mono HB8.out.size)).setCell HFA.out.1 _).setCell HFA.out.1 _).setCell HFA.out.1 _).setCell HFA.out.1 _⟩)
                  case rest =>
                    obtain ⟨rfl, hpf, hpa, hbw⟩ := hcut
                    have HB9 := hide hbw
                    clear hf f0 f1 f2 f3 ha a0 a1 a2' a3 y0 y1' y2' y3 HPf8 HPa8 HB8 hbw
                    obtain ⟨hf, f0, f1, f2, f3⟩ := hpf.cells
                    obtain ⟨ha, a0, a1, a2', a3⟩ := hpa.cells
                    clear hpf hpa
                    go_wp2_with fail
                    refine (sameplace_eq _ P).mono ?_
                    rintro r w10 ⟨rfl, hb10⟩
                    have HB10 := hide (HB9.out.trans (hb10.mono HB9.out.size))
                    clear hb10 hf f0 f1 f2 f3 ha a0 a1 a2' a3
                    go_wp2
                    go_ret
                    exact ⟨by rfl, HB10.out⟩)
end Lm
end Go.Proofs.YtgfglefgpgckiaaDoor

namespace Go.Proofs.YtgfglefgpgckiaaDoor
namespace glyphCodesLaw
open Go.ChangeShapes Go.WideShapes Go.ChangeAt Go.RowKit
open Go.ChangeMaps (open_string shut_string)
theorem own : ownKnob Tryd.prog.godebug = none := by kernel_rfl
theorem laidOut : laidOutB Tryd.prog = true := by kernel_rfl
theorem nums_of {w : World} {x : Addr} {l c : Nat} {zs : List Int} (hl : l ≤ c) (hm : c ≤ maxLen) (hz : zs.length = c) (hcell : ∀ i, i < zs.length → w.cell? (x.add i) = some (.int .i64 (zs.getD i 0))) : Lm.Nums w (.slice (some x) l c) (zs.take l) := by
  have hll : (zs.take l).length = l := by rw [List.length_take]; omega
  refine ⟨some x, c, by rw [hll], by omega, by unfold maxLen at hm; omega, by simp, ?_⟩
  by_cases h0 : l = 0
  · exact .inl (by omega)
  · obtain ⟨b, off, spot⟩ := x
    have h1 := hcell 0 (by omega)
    have hspot : spot = none := by simpa [Addr.add] using World.cell?_spot h1
    subst hspot
    refine .inr ⟨b, off, rfl, ?_, fun i u hu => ?_⟩
    · have := Go.block_lt_of_cell h1
      simpa [Addr.add] using this
    · have hi : i < l := by
        have := (List.getElem?_eq_some_iff.1 hu).1
        rw [List.length_map, hll] at this
        exact this
      have h2 := hcell i (by omega)
      have e : (⟨b, off, none⟩ : Addr).add i = ⟨b, off + i, none⟩ := by
        by_cases hi0 : i = 0
        · subst hi0; simp [Addr.add]
        · simp [Addr.add, hi0]
      rw [e] at h2
      rw [h2]
      rw [List.getElem?_map, List.getElem?_take_of_lt hi] at hu
      rw [List.getD_eq_getElem?_getD]
      cases hq : zs[i]? with
      | none => rw [hq] at hu; simp at hu
      | some z => rw [hq] at hu; simpa using hu
noncomputable def laidWorld (os : Os) : World :=
  let w0 := World.holding Tryd.prog os ⟨#[], #[], []⟩
  let put (h : Array Obj) (g : Nat) (cs : Array Value) : Array Obj := h.modify g fun
    | .cells _ t frozen => .cells cs t frozen
    | o => o
  let h1 := put w0.heap (Tryd.lays197_ren.g 3) (Lib.firstTab.map fun z => Value.int .u8 z).toArray
  let h2 := put h1 (Tryd.lays197_ren.g 4) ((List.range 16).flatMap fun i => [Value.int .u8 (Lib.accLo i), Value.int .u8 (Lib.accHi i)]).toArray
  { w0 with heap := h2 }
theorem laid_met (os : Os) : laidMet Tryd.prog Rows.glyphCodesRow.laid ((laidWorld os).forCall (fun _ _ => 0) ⟨#[], #[.slice none 0 0, .int .i64 0], []⟩).memory :=
  laidMet_of_run' 8 (by kernel_rfl) (by kernel_rfl)
theorem tabs {W : World} (h : laidMet Tryd.prog Rows.glyphCodesRow.laid W) : Lm.Tabs W :=
  utf8Tabs_of_reads (ρ := Tryd.lays197_ren) { Tryd.lays197 with } ⟨by kernel_rfl, by kernel_rfl, by kernel_rfl, by kernel_rfl, by kernel_rfl, by kernel_rfl, by kernel_rfl⟩
    (Lib.laidMet.reads h (show ("unicode/utf8.first", Lib.firstData) ∈ Rows.glyphCodesRow.laid from by
      rw [show Lib.firstData = Rows.laid_unicode_utf8_first from by kernel_rfl]
      exact .tail _ (.head _)))
    (Lib.laidMet.reads h (show ("unicode/utf8.acceptRanges", Lib.acceptData) ∈ Rows.glyphCodesRow.laid from by
      rw [show Lib.acceptData = Rows.laid_unicode_utf8_acceptRanges from by kernel_rfl]
      exact .head _))
theorem reads (os : Os) {H : Type} (enc : TypeId × Value → H) : ∃ places, DataW.whole enc Tryd.prog ((laidWorld os).forCall (fun _ _ => 0) ⟨#[], #[.slice none 0 0, .int .i64 0], []⟩).memory Tryd.f5.params.toList Rows.glyphCodesSpec.vars false (#[.slice none 0 0, .int .i64 0] : Array Value).toList 8 = some ([.nil, .lit (.int .i64 0)], [], places) :=
  ⟨[], by kernel_rfl⟩
set_option linter.unusedVariables false in
set_option maxRecDepth 100000 in
theorem lifted (os : Os) (started : os.Started) (H : Type) (enc : TypeId × Value → H) (F : Stop.Interp) :
    ReturnsInHanded {} Tryd.checked os 5 .any ((OpenSpec.ofChange Rows.glyphCodesSpec).preRow enc Tryd.prog Tryd.f5 Rows.glyphCodesRow.domain false Rows.glyphCodesRow.laid) (((OpenSpec.ofChange Rows.glyphCodesSpec).at F).post enc Tryd.prog Tryd.f5 false true false false) := by
  obtain ⟨places, hx⟩ := reads os enc
  refine returnsInHanded_of_row (C := Tryd.checked) (s := (OpenSpec.ofChange Rows.glyphCodesSpec)) own started (by kernel_rfl) Tryd.func5
    (witness_row_at (enc := enc) (C := Tryd.checked) false (laidWorld os) #[.slice none 0 0, .int .i64 0] rfl (by kernel_rfl) (by kernel_rfl) (by kernel_rfl)
      (OpenSpec.preRow_of_cond 8 hx (by kernel_rfl) (fun k hk => by cases hk) (by kernel_rfl) (laid_met os))) ?_
  intro W base args ds gs before hval0 hW hcnd0 hcond hsz0 hL hj2 hj3
  have hTabs : Lm.Tabs W := tabs hL
  have hval : ∀ (j : Nat) t v, Tryd.f5.params[j]? = some t → args[j]? = some v → Value.okWide Tryd.prog W .any base t v := hval0
  have hW' := hW
  obtain ⟨p, q, hA0, hV, rfl, hfz, hnd⟩ := hW
  have hA : DataW.TrodAll enc Tryd.prog W 0 (fun _ => true) true Tryd.f5.params.toList args.toList ds p := hA0
  have hsz : (DataW.weightsEach Tryd.prog (Tryd.f5.params.toList ++ Rows.glyphCodesSpec.plain.varTypes Tryd.prog) (ds ++ gs)).all (· ≤ reachBytes) = true := hsz0
  rw [Tryd.params5] at hA hval hsz
  obtain ⟨v0, vs0, d0, ds0, p0, q0, hargs, rfl, rfl, h0, r0⟩ := trodAll_cons hA
  obtain ⟨v1, vs1, d1, ds1, p1, q1, rfl, rfl, rfl, h1, r1⟩ := trodAll_cons r0
  obtain ⟨rfl, rfl, rfl⟩ := trodAll_nil r1
  obtain rfl : args = #[v0, v1] := by cases args; simp_all
  obtain ⟨rfl, rfl⟩ := trodVars_none hV
  obtain ⟨a0, len0, cap0, rfl⟩ := okWide_slice Tryd.underlying40 (hval 0 40 v0 rfl rfl)
  have k0 := h0
  have lt0 : ∀ x ∈ p0, x.block < W.heap.size := by obtain ⟨m, hm⟩ := k0; exact DataW.trod_lt m _ _ _ hm
  obtain ⟨z0, w0⟩ : ∃ zs, Lm.Nums W (.slice a0 len0 cap0) zs := by
    obtain ⟨fuel, hf⟩ := h0
    rcases open_ints Tryd.underlying40 Tryd.underlying3 (by kernel_rfl) hf with ⟨hcs, _⟩ | ⟨x, l, c, zs, hcs, _, hl, hm, hz, hx, hcell, hwz⟩
    · simp [Value.cells] at hcs
      obtain ⟨rfl, rfl, rfl⟩ := hcs
      exact ⟨[], ⟨none, 0, rfl, Nat.le_refl _, by omega, rfl, .inl rfl⟩⟩
    · simp [Value.cells] at hcs
      obtain ⟨rfl, rfl, rfl⟩ := hcs
      have hz' : zs.length = cap0 := by simpa using hz
      exact ⟨_, nums_of hl hm hz' hcell⟩
  obtain ⟨a1, rfl, rfl, rfl, w1⟩ := open_int Tryd.underlying3 (hval 1 3 v1 rfl rfl) h1
  clear hA0 hval0
  refine (Lm.glyphcodes_any W hTabs (.slice a0 len0 cap0) z0 w0 a1).mono fun e W' ⟨he, bel⟩ => ?_
  subst he
  exact ⟨_, rfl, _, _, _, [], _, [], hW', trodAll_mk1 (shut_bool Tryd.underlying4 _), (trodAll_cons_mk (Below.trod laidOut (by kernel_rfl) (of_decide_eq_true (by kernel_rfl)) k0 bel lt0) (trodAll_cons_mk (shut_int Tryd.underlying3 w1) trodAll_mk0)), rfl, bel.frame _, fun h => by cases h⟩
theorem said : Rows.GlyphCodesSaid :=
  OpenClaim.holds_of_cond 5 Tryd.f5 rfl rfl rfl rfl rfl rfl rfl ⟨rfl, rfl, rfl, rfl, rfl⟩ rfl rfl rfl rfl rfl (by kernel_rfl) Tryd.func5 (by kernel_rfl)
    (of_decide_eq_true (by kernel_rfl)) (by unfold Func.isWrapper; first | (rw [if_pos (by decide +kernel)]; kernel_rfl) | (rw [if_neg (by decide +kernel)]; exact ⟨rfl, rfl⟩))
    (fun os started H enc _ F => by rw [OpenClaim.pre_eq_preRow]; exact lifted os started H enc F)
theorem plain (f : FuncId) (fn : Func) (hf : Tryd.pinned.checked.prog.funcNamed "rafter/rafterlaw04.GlyphCodes" = some f) (hfn : Tryd.pinned.checked.prog.funcs[f]? = some fn) :
    false = Tryd.pinned.checked.prog.looks [] ∧ ∀ (j : Nat) t, fn.params[j]? = some t → Tryd.pinned.checked.prog.wantsStandIn t = false := by
  obtain rfl : f = 5 := Option.some.inj ((show Tryd.prog.funcNamed "rafter/rafterlaw04.GlyphCodes" = some 5 by kernel_rfl).symm.trans hf) |>.symm
  obtain rfl : fn = Tryd.f5 := (Option.some.inj (Tryd.func5.symm.trans hfn)).symm
  refine ⟨by kernel_rfl, fun j t ht => ?_⟩
  rw [Tryd.params5] at ht
  have hm := Array.mem_of_getElem? ht
  simp at hm
  rcases hm with rfl | rfl
  · exact (show Tryd.prog.wantsStandIn 40 = false by kernel_rfl)
  · exact (show Tryd.prog.wantsStandIn 3 = false by kernel_rfl)
theorem card : Rows.GlyphCodesCardSaid :=
  Claim7.holds_tied_plain_at .later [] _ _ _ _ said (fun _ h => by cases h) (by kernel_rfl) (fun _ h => by cases h) glyphCodes_row_tie rfl ⟨rfl, rfl⟩ (by kernel_rfl) rfl plain (by kernel_rfl)
end glyphCodesLaw
theorem glyphCodes_card : Rows.GlyphCodesCardSaid := glyphCodesLaw.card
#print axioms glyphCodes_card
end Go.Proofs.YtgfglefgpgckiaaDoor

