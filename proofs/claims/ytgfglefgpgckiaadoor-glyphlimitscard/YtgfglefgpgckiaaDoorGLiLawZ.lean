/-
  The given statement on GlyphLimits, for every input: the call answers true, and each argument reads behind it as it read before; and its card. Its condition: the two tables of unicode/utf8 are laid as the row lists them; the card ties that to the program's text. Beside it: What the library's utf8.DecodeRuneInString does, at this program. The glyphs of a text up to its first byte that is part of none: the walk. What the library's strings.Clone does, at this program. The scanner goes past a name. The scanner goes past a number. The scanner goes past a sign. Tokens: what a text's glyphs make. No program is named here. The scanner goes past a token. The scanner goes past a token: the walk. Tokens in memory, and the scanner on its way. What Scan answers, of any text: the walk. What every program answers that is one: Scan of one small text. Tokens in memory held against one another. What the library's strings.Builder does, at this program. The document's reader reads a token. Tokens of codes: what a text's codes make, without places. No program is named here. Tokens that are written anew, and blanks and comments that are put between tokens. No program is named here. The bytes of a code point that stands in a text are those that stand there. Any text's codes, and what Scan answers by them. GlyphReads answers true, whatever text it is handed: the walk. Name, the program's and the document's, of any text. GlyphSigns answers true, whatever text it is handed: the walk. Names, numbers and texts at their limits: what Scan and Name answer. The numbers and the texts of GlyphLimits: the walk. GlyphLimits answers true, whatever numbers it is handed: the walk.
-/
import Derived.Shelf.Lay
import Derived.Shelf.Unicode.DecodeAny
import Derived.Lib.LaidU8
import Derived.Test.YtgfglefgpgckiaaDoorProg
import Derived.Lib.OthersKept
import Derived.Laws.RangeAny
import Derived.Deep.RegionLaw
import Derived.Deep.AppendLies
import Derived.Shelf.Strconv.Clone
import Derived.Laws.Concat
import Derived.Shelf.Strings.BuilderK
import Derived.Deep.DeepCutAuto
import Derived.SizedLaws
import Derived.Test.YtgfglefgpgckiaaDoorRows
import Derived.Test.YtgfglefgpgckiaaDoorCards
import Derived.Test.YtgfglefgpgckiaaDoorTie
import Derived.ProofKit
import Derived.OpenShut
import Derived.ShutString
import Derived.ChangeOld
import Derived.Lib.SmallJoins
import Derived.Lib.LaidIn
import Derived.Deep.DeepHandedRow
import Derived.Test.YtgfglefgpgckiaaDoorGLiLawZ0
namespace Go.Proofs
open Go.Shelf
shelf_lay Lays.n197 Nm 197 at Tryd as Tryd.lays197
namespace YtgfglefgpgckiaaDoor
namespace Lm
open Go Go.RowKit
def Tabs (w : World) : Prop := Lib.Utf8Tabs (Tryd.lays197_ren.g 3) (Tryd.lays197_ren.g 4) w
theorem Tabs.below {w w' : World} (h : Tabs w) (hb : Below w.heap.size w w') : Tabs w' := Utf8Tabs_below h hb
theorem decode_any (w : World) (s : ByteArray) (hT : Tabs w) :
    Calls Tryd.prog 48 #[.string s] w fun e w' => e = .returned (.tuple #[.int .i32 (Lib.decodeGo s).1, .int .i64 (Lib.decodeGo s).2]) ∧ Below w.heap.size w w' := Any.utf8_DecodeRuneInString Tryd.lays197 s w hT
end Lm
end YtgfglefgpgckiaaDoor
end Go.Proofs

namespace Go.Proofs.YtgfglefgpgckiaaDoor
namespace Lm
open Go Go.RowKit
theorem get!_out (s : ByteArray) (k : Nat) (h : s.size ≤ k) : (s.get! k).toNat = 0 := by
  cases s with
  | mk d =>
    have : d[k]! = default := getElem!_neg d k (by simpa [ByteArray.size] using h)
    show (d[k]!).toNat = 0
    rw [this]
    rfl
theorem decodeGo_at (s : ByteArray) (i : Nat) (h : i < s.size) : Lib.decodeGo (s.extract i s.size) = Utf8.decode s i := by
  have hsz : (s.extract i s.size).size = s.size - i := by rw [ByteArray.size_extract]; omega
  rw [Lib.decodeGo, if_neg (by omega), Lib.decode_at, Lib.decode_at, hsz]
  have key : ∀ k, ((s.extract i s.size).get! k).toNat = (s.get! (i + k)).toNat := by
    intro k
    by_cases hk : k < s.size - i
    · have h1 := get!_getD (s.extract i s.size) k (by omega)
      have h2 := get!_getD s (i + k) (by omega)
      rw [bytesOf_extract, List.getD_eq_getElem?_getD, List.getElem?_take_of_lt (by omega), List.getElem?_drop, ← List.getD_eq_getElem?_getD] at h1
      rw [h1] at h2
      exact_mod_cast h2
    · rw [get!_out _ _ (by omega), get!_out _ _ (by omega)]
  simp only [key, Nat.zero_add, Nat.add_zero, Nat.sub_zero]
theorem own_keep {w w' : World} {B : Nat} {e : TypeId} {size n : Nat} {v : Value} {xs : List Value} (h : w.ownsRow B e size v n xs) (hk : ∀ k o, B ≤ k → w.heap[k]? = some o → w'.heap[k]? = some o) : w'.ownsRow B e size v n xs := by
  obtain ⟨hl, h1 | ⟨g, cap, cur, rfl, hb, hh, h2⟩⟩ := h
  · exact ⟨hl, .inl h1⟩
  · exact ⟨hl, .inr ⟨g, cap, cur, rfl, hb, hk g _ hb hh, h2⟩⟩
theorem own_below {w w' : World} {B : Nat} {e : TypeId} {size n : Nat} {v : Value} {xs : List Value} (h : w.ownsRow B e size v n xs) (hb : Below w.heap.size w w') : w'.ownsRow B e size v n xs :=
  own_keep h fun k _ _ hk => (hb.block k (lt_of_heap hk)).trans hk
theorem own_mono {w : World} {B B' : Nat} {e : TypeId} {size n : Nat} {v : Value} {xs : List Value} (h : w.ownsRow B e size v n xs) (hB : B' ≤ B) : w.ownsRow B' e size v n xs := by
  obtain ⟨hl, h1 | ⟨g, cap, cur, rfl, hb, hh, h2⟩⟩ := h
  · exact ⟨hl, .inl h1⟩
  · exact ⟨hl, .inr ⟨g, cap, cur, rfl, Nat.le_trans hB hb, hh, h2⟩⟩
structure Sou (w wr : World) (s : ByteArray) (acc : List Gl) (p : Pl) (pos : Nat) (gv : Value) : Prop where
  own : wr.ownsRow (w.heap.size + 2) 46 6 gv acc.length (gflat acc)
  plc : PlB wr w.heap.size p
  itr : wr.heap[w.heap.size + 1]? = some (.stringIter s pos)
  bel : Below w.heap.size w wr
  siz : w.heap.size + 2 ≤ wr.heap.size
theorem Sou.below {w wr w' : World} {s : ByteArray} {acc : List Gl} {p : Pl} {pos : Nat} {v : Value} (h : Sou w wr s acc p pos v) (hb : Below wr.heap.size wr w') : Sou w w' s acc p pos v :=
  ⟨own_below h.own hb, h.plc.below hb, (hb.block _ (by have := h.siz; omega)).trans h.itr, h.bel.trans (hb.mono h.bel.size), Nat.le_trans h.siz hb.size⟩
theorem Sou.iterAt {w wr : World} {s : ByteArray} {acc : List Gl} {p : Pl} {pos : Nat} {v : Value} (h : Sou w wr s acc p pos v) (pos' : Nat) : Sou w (wr.iterAt (w.heap.size + 1) s pos') s acc p pos' v :=
  ⟨own_keep h.own fun k _ hk he => (Lib.iterAt_other wr _ k s pos' (by omega)).trans he, (Lib.iterAt_other wr _ _ s pos' (by omega)).trans h.plc, Lib.iterAt_heap wr _ s pos pos' h.itr, Lib.below_iterAt h.bel (by omega) s pos', by rw [Lib.iterAt_size]; exact h.siz⟩
theorem Sou.more {w wr w1 : World} {s : ByteArray} {acc : List Gl} {p : Pl} {pos : Nat} {v v' : Value} {g : Gl} (h : Sou w wr s acc p pos v) (hg : wr.grownBy w1 v.ownBlock) (hown : w1.ownsRow (w.heap.size + 2) 46 6 v' (acc ++ [g]).length (gflat (acc ++ [g]))) : Sou w w1 s (acc ++ [g]) p pos v' := by
  have hrow : ∀ k, k < w.heap.size + 2 → some k ≠ v.ownBlock := by
    intro k hk
    obtain ⟨hl, ⟨rfl, _⟩ | ⟨b, cap, cur, rfl, hb, _⟩⟩ := h.own
    · simp [Value.ownBlock]
    · simp only [Value.ownBlock, ne_eq, Option.some.injEq]
      omega
  have hz := h.siz
  exact ⟨hown, (hg.block _ (by omega) (hrow _ (by omega))).trans h.plc, (hg.block _ (by omega) (hrow _ (by omega))).trans h.itr, ⟨hg.os.trans h.bel.os, hg.tape.trans h.bel.tape, hg.output.trans h.bel.output, Nat.le_trans h.bel.size hg.size, fun k hk => (hg.block k (by omega) (hrow k (by omega))).trans (h.bel.block k hk)⟩, Nat.le_trans h.siz hg.size⟩
theorem Sou.place {w wr : World} {s : ByteArray} {acc : List Gl} {p p' : Pl} {pos : Nat} {v : Value} (h : Sou w wr s acc p pos v) : Sou w ((((wr.setCell ⟨w.heap.size, 0, none⟩ (.int .i64 p'.b)).setCell ⟨w.heap.size, 1, none⟩ (.int .i64 p'.g)).setCell ⟨w.heap.size, 2, none⟩ (.int .i64 p'.l)).setCell ⟨w.heap.size, 3, none⟩ (.int .i64 p'.c)) s acc p' pos v := by
  have ho : ∀ k, k ≠ w.heap.size → ((((wr.setCell ⟨w.heap.size, 0, none⟩ (.int .i64 p'.b)).setCell ⟨w.heap.size, 1, none⟩ (.int .i64 p'.g)).setCell ⟨w.heap.size, 2, none⟩ (.int .i64 p'.l)).setCell ⟨w.heap.size, 3, none⟩ (.int .i64 p'.c)).heap[k]? = wr.heap[k]? := by
    intro k hk
    rw [heap_setCell_other _ ⟨w.heap.size, 3, none⟩ k _ hk, heap_setCell_other _ ⟨w.heap.size, 2, none⟩ k _ hk, heap_setCell_other _ ⟨w.heap.size, 1, none⟩ k _ hk, heap_setCell_other _ ⟨w.heap.size, 0, none⟩ k _ hk]
  have hsz : ((((wr.setCell ⟨w.heap.size, 0, none⟩ (.int .i64 p'.b)).setCell ⟨w.heap.size, 1, none⟩ (.int .i64 p'.g)).setCell ⟨w.heap.size, 2, none⟩ (.int .i64 p'.l)).setCell ⟨w.heap.size, 3, none⟩ (.int .i64 p'.c)).heap.size = wr.heap.size := by simp [World.setCell]
  refine ⟨own_keep h.own fun k _ hk he => (ho k (by omega)).trans he, ?_, (ho _ (by omega)).trans h.itr, ⟨h.bel.os, h.bel.tape, h.bel.output, by rw [hsz]; exact h.bel.size, fun k hk => (ho k (by omega)).trans (h.bel.block k hk)⟩, by rw [hsz]; exact h.siz⟩
  unfold PlB
  rw [heap_setCell_same _ _ 3 _ _ _ (heap_setCell_same _ _ 2 _ _ _ (heap_setCell_same _ _ 1 _ _ _ (heap_setCell_same _ _ 0 _ _ _ h.plc)))]
  simp
theorem own_slice {w : World} {B : Nat} {e : TypeId} {size n : Nat} {v : Value} {xs : List Value} (h : w.ownsRow B e size v n xs) : ∃ ao cap, v = .slice ao n cap := by
  obtain ⟨hl, ⟨rfl, rfl⟩ | ⟨g, cap, cur, rfl, _⟩⟩ := h
  · exact ⟨_, _, rfl⟩
  · exact ⟨_, _, rfl⟩
theorem infoG : (Tryd.prog.info? 46).map (fun i => (i.zero, i.size, i.bytes)) = some (some (.agg #[.int .i64 0, .int .i64 0, .int .i64 0, .int .i64 0, .int .i64 0, .int .i64 0]), 6, 48) := by kernel_rfl
theorem info_is {P : Program} {e : TypeId} {z : Value} {n b : Nat} (h : (P.info? e).map (fun i => (i.zero, i.size, i.bytes)) = some (some z, n, b)) : ∃ i, P.info? e = some i ∧ i.zero = some z ∧ i.size = n ∧ i.bytes = b := by
  cases hi : P.info? e with
  | none => rw [hi] at h; cases h
  | some i =>
    rw [hi] at h
    simp only [Option.map_some, Option.some.injEq, Prod.mk.injEq] at h
    exact ⟨i, rfl, h.1, h.2.1, h.2.2⟩
theorem enters_class (args : Array Value) (w : World) : (callFunc 23 args).run Tryd.prog w = .ok (.enter 23 args) w := by
  have h : (match Tryd.prog.funcs[23]? with | some fn => !(fn.name == "runtime.NumGoroutine") && fn.body.isSome | none => false) = true := by kernel_rfl
  cases hf : Tryd.prog.funcs[23]? with
  | none => rw [hf] at h; simp at h
  | some fn =>
    rw [hf] at h
    simp only [Bool.and_eq_true, Bool.not_eq_true', beq_eq_false_iff_ne] at h
    obtain ⟨h1, h2⟩ := h
    have h3 : fn.body ≠ none := by intro hb; rw [hb] at h2; simp at h2
    simp [callFunc, hf, h1, h3]
theorem step_class {ops : Array Oper} {o : Oper} {a : Act} {w : World} {K : Act → World → Prop} {Q : Exit → Act → World → Prop} {E : Prop} (hg : o.guard = none) (x : Operand) (ats : Array TypeId)
    (hop : o.op = .call { callee := .value (.func 23), args := #[x], argTypes := ats }) (c : Int) (hx : a.eval x = .int .i64 c) (hK : K (a.put o.dst (.int .i64 (gcls c))) w) :
    if Region.wanted o (yielded ops a.tmps) = true then Oper.wp Tryd.prog o a w K Q else E := by
  obtain ⟨dst, op, ty, pos, after, guard⟩ := o
  simp only at hop hg
  subst hop hg
  have hw : Region.wanted { dst, op := .call { callee := .value (.func 23), args := #[x], argTypes := ats }, type := ty, pos, after, guard := none } (yielded ops a.tmps) = true := by simp [Region.wanted]
  rw [if_pos hw]
  have e : execOp a.eval { dst, op := .call { callee := .value (.func 23), args := #[x], argTypes := ats }, type := ty, pos, after, guard := none } = callFunc 23 (#[] ++ #[x].map a.eval ++ #[]) := rfl
  unfold Oper.wp
  rw [e, enters_class]
  simp only [Oper.upon]
  have e2 : (#[] ++ #[x].map a.eval ++ #[] : Array Value) = #[.int .i64 c] := by simp [hx]
  rw [e2]
  refine (gcls_any w c).mono ?_
  rintro r w' ⟨rfl, rfl⟩
  exact hK
set_option maxRecDepth 20000 in
set_option maxHeartbeats 2000000 in
theorem sound_any (w : World) (s : ByteArray) (hT : Tabs w) (hs : s.size ≤ 4096) :
    Calls Tryd.prog 27 #[.string s] w fun r w' => ∃ gs e v, Snd s pl0 gs e ∧ r = .returned (.tuple #[v, e.v]) ∧ w'.ownsRow (w.heap.size + 2) 46 6 v gs.length (gflat gs) ∧ Below w.heap.size w w' := by
  go_enter Tryd.func27, Tryd.ntmps27
  go_wp2
  have hS0 : Sou w ((w.alloc (.cells #[.int .i64 0, .int .i64 0, .int .i64 1, .int .i64 1] 25)).iter s 0) s [] pl0 0 (.slice none 0 0) := by
    refine ⟨World.ownsRow_nil _ _ _ _, ?_, ?_, ?_, ?_⟩
    · exact ((Below.refl (w.alloc _).heap.size (w.alloc _)).alloc (Nat.le_refl _) (.stringIter s 0)).block w.heap.size (by simp [World.size_alloc]) |>.trans (heap_alloc_new w _)
    · have := World.iter_heap (w.alloc (.cells #[.int .i64 0, .int .i64 0, .int .i64 1, .int .i64 1] 25)) s 0
      rw [World.size_alloc] at this
      exact this
    · exact ((Below.refl _ _).alloc (Nat.le_refl _) _).alloc (by simp [World.size_alloc]) (.stringIter s 0)
    · show w.heap.size + 2 ≤ ((w.alloc _).alloc (.stringIter s 0)).heap.size
      simp [World.size_alloc]
  generalize (w.alloc (.cells #[.int .i64 0, .int .i64 0, .int .i64 1, .int .i64 1] 25)).iter s 0 = w0 at hS0 ⊢
  have HS0 := hide hS0
  have HT := hide hT
  clear hS0 hT
  go_loopw [2] (fun gv wr => ∃ (acc : List Gl) (p : Pl) (ao : Option Addr) (cap : Nat), gv = .slice ao acc.length cap ∧ Sou w wr s acc p p.b (.slice ao acc.length cap) ∧ p.ok ∧ p.b ≤ s.size ∧ acc.length ≤ p.b ∧ ∀ gs e, Snd s p gs e → Snd s pl0 (acc ++ gs) e) (fun _ wr => s.size - wr.iterPos (w.heap.size + 1))
  case atStart => exact ⟨[], pl0, none, 0, rfl, HS0.out, pl0_ok, Nat.zero_le _, Nat.zero_le _, fun gs e h => h⟩
  case round =>
    obtain ⟨acc, p, ao, cap, rfl, hS, hp, hpb, hal, hpre⟩ := hrel
    have HS := hide hS
    have HP := hide hp
    have HE := hide hpre
    have IP : Hid (wr.iterPos (w.heap.size + 1) = p.b) := by show _ = _; unfold World.iterPos; rw [hS.itr]
    clear hS hp hpre
    by_cases hlt : p.b < s.size
    · have hnext := fun ty => Lib.run_next_any_at (P := Tryd.prog) wr (w.heap.size + 1) s p.b ty HS.out.itr hlt
      have hd := dec_le s p.b hlt
      have htop := dec_top s p.b
      have HDG := hide (decodeGo_at s p.b hlt)
      have HS1 := hide (HS.out.iterAt (p.b + (Utf8.decode s p.b).2))
      have HSG := hide (fun gs e => Snd.go p gs e hlt)
      generalize hdc : Utf8.decode s p.b = dc at *
      have HDC := hide hdc
      clear hdc
      obtain ⟨c, z⟩ := dc
      simp only at hd htop hnext
      generalize wr.iterAt (w.heap.size + 1) s (p.b + z) = w1 at HS1 hnext
      have hlt' : (p.b : Int) < (s.size : Int) := by omega
      go_wp2_with fail
      refine (decode_any _ _ (HT.out.below HS1.out.bel)).mono ?_
      rintro r w2 ⟨rfl, hb2⟩
      rw [HDG.out]
      have HS2 := hide (HS1.out.below hb2)
      clear hb2 hnext HS1
      by_cases hbad : (c, z) = (65533, 1)
      · obtain ⟨rfl, rfl⟩ := Prod.mk.inj hbad
        obtain ⟨hf, p0, p1, p2, p3⟩ := HS2.out.plc.cells
        have f0 := frozen_of_row w2 w.heap.size 0 _ _ HS2.out.plc
        have f1 := frozen_of_row w2 w.heap.size 1 _ _ HS2.out.plc
        have f2 := frozen_of_row w2 w.heap.size 2 _ _ HS2.out.plc
        have f3 := frozen_of_row w2 w.heap.size 3 _ _ HS2.out.plc
        go_wp2_with fail
        go_region
        go_wp2
        refine bodyPost_ret (v := _) (by simp [results, Tryd.results27, go_sem, p0, p1, p2, p3]; try rfl) rfl ⟨acc, p, _, ?_, rfl, ((HS2.out.place (p' := p)).below (by (repeat' (first | (with_reducible exact Below.refl _ _) | (with_reducible assumption) | (with_reducible refine gdrewN ?_ _) | (with_reducible refine Below.alloc ?_ ?_ _) | (with_reducible refine Below.drew ?_) | (with_reducible refine Below.setCell ?_ ?_ _) | go_size)))).own, ((HS2.out.place (p' := p)).below (by (repeat' (first | (with_reducible exact Below.refl _ _) | (with_reducible assumption) | (with_reducible refine gdrewN ?_ _) | (with_reducible refine Below.alloc ?_ ?_ _) | (with_reducible refine Below.drew ?_) | (with_reducible refine Below.setCell ?_ ?_ _) | go_size)))).bel⟩
        have := HE.out [] p (.stop p (.inr ⟨hlt, HDC.out⟩))
        rwa [List.append_nil] at this
      · by_cases h1 : c = 65533
        · subst h1
          have e2 : ((z : Int) == 1) = false := beq_eq_false_iff_ne.2 (by intro hz; exact hbad (by rw [show z = 1 from by omega]))
          obtain ⟨i0, hi0, hz0, hz1, hz2⟩ := info_is infoG
          obtain ⟨hf, p0, p1, p2, p3⟩ := HS2.out.plc.cells
          have hown := HS2.out.own
          have hsz := HS2.out.siz
          have hone : ∀ u ∈ ([.int .i64 65533, .int .i64 (gcls 65533), .int .i64 p.b, .int .i64 p.g, .int .i64 p.l, .int .i64 p.c] : List Value), u.oneCell' = true := by
            intro u hu
            simp only [List.mem_cons, List.not_mem_nil, or_false] at hu
            rcases hu with rfl | rfl | rfl | rfl | rfl | rfl <;> rfl
          go_wp2_with fail
          go_region_law (first | (refine step_class rfl (.tmp 35) #[3] rfl (65533 : Int) (by simp [Act.eval, Act.put]) ?_) | (refine step_append_lies _ rfl (.tmp 33) (.tmp 39) 42 rfl (w.heap.size + 2) 46 i0 _ 6 48 Tryd.underlying42 hi0 hz0 hz1 hz2 rfl (by decide) (.slice ao acc.length cap) acc.length (gflat acc) (by simp [Act.eval]) (own_below hown ((Below.refl _ _).alloc (Nat.le_refl _) _).drew) ⟨w2.heap.size, 0, none⟩ 1 1 [.int .i64 65533, .int .i64 (gcls 65533), .int .i64 p.b, .int .i64 p.g, .int .i64 p.l, .int .i64 p.c] (by simp [Act.eval]) rfl (World.news_of_block (w := (w2.alloc (.cells #[.int .i64 65533, .int .i64 (gcls 65533), .int .i64 p.b, .int .i64 p.g, .int .i64 p.l, .int .i64 p.c] 46)).drew) (heap_alloc_new w2 _)) hone (by omega) (by unfold maxLen; omega) (by omega) (by simp; omega) _ rfl ?_; intro g1 cap1 w3 hown3 hgrow3 hat3 hlt3))
          all_goals
            have HS3 := hide ((HS2.out.below (((Below.refl _ _).alloc (Nat.le_refl _) _).drew)).more (g := ⟨65533, p⟩) hgrow3 (by simpa [gflat_append, gflat] using hown3))
            clear hown3 hgrow3 hat3 hlt3 p0 p1 p2 p3 hf hown hsz hone hi0 hz0 hz1 hz2
            obtain ⟨hf, p0, p1, p2, p3⟩ := HS3.out.plc.cells
            go_wp2_with fail
            refine (behind_any w3 p 65533 z (by have := HP.out.g; have := HP.out.l; have := HP.out.c; omega)).mono ?_
            rintro r w4 ⟨rfl, hb4⟩
            have HS4 := hide (HS3.out.below hb4)
            clear hb4 p0 p1 p2 p3 hf HS3 HS2
            generalize hpp : p.past 65533 z = p' at HS4 ⊢
            have HPP := hide hpp
            clear hpp
            unfold Pl.v
            obtain ⟨hf, p0, p1, p2, p3⟩ := HS4.out.plc.cells
            have f0 := frozen_of_row w4 w.heap.size 0 _ _ HS4.out.plc
            have f1 := frozen_of_row w4 w.heap.size 1 _ _ HS4.out.plc
            have f2 := frozen_of_row w4 w.heap.size 2 _ _ HS4.out.plc
            have f3 := frozen_of_row w4 w.heap.size 3 _ _ HS4.out.plc
            have IP4 := hide ((HS4.out.place (p' := p')).itr)
            go_wp2
            go_roundw
            case rel =>
              have hb' : p'.b = p.b + z := by rw [← HPP.out]; rfl
              refine ⟨acc ++ [⟨65533, p⟩], p', some ⟨g1, 0, none⟩, cap1, by simp, ?_, by rw [← HPP.out]; exact HP.out.past _ _ hd.1, by omega, by simp; omega, ?_⟩
              · have := HS4.out.place (p' := p')
                rw [← hb'] at this
                simpa using this
              · intro gs e h
                rw [List.append_assoc]
                refine HE.out _ _ ?_
                exact HSG.out gs e hbad (by rw [← HPP.out] at h; exact h)
            case measure =>
              rw [IP.out]
              unfold World.iterPos
              rw [IP4.out]
              simp only
              omega
        · have e1 : ((c : Int) == 65533) = false := beq_eq_false_iff_ne.2 (by omega)
          obtain ⟨i0, hi0, hz0, hz1, hz2⟩ := info_is infoG
          obtain ⟨hf, p0, p1, p2, p3⟩ := HS2.out.plc.cells
          have hown := HS2.out.own
          have hsz := HS2.out.siz
          have hone : ∀ u ∈ ([.int .i64 c, .int .i64 (gcls c), .int .i64 p.b, .int .i64 p.g, .int .i64 p.l, .int .i64 p.c] : List Value), u.oneCell' = true := by
            intro u hu
            simp only [List.mem_cons, List.not_mem_nil, or_false] at hu
            rcases hu with rfl | rfl | rfl | rfl | rfl | rfl <;> rfl
          go_wp2_with fail
          go_region_law (first | (refine step_class rfl (.tmp 35) #[3] rfl (c : Int) (by simp [Act.eval, Act.put]) ?_) | (refine step_append_lies _ rfl (.tmp 33) (.tmp 39) 42 rfl (w.heap.size + 2) 46 i0 _ 6 48 Tryd.underlying42 hi0 hz0 hz1 hz2 rfl (by decide) (.slice ao acc.length cap) acc.length (gflat acc) (by simp [Act.eval]) (own_below hown ((Below.refl _ _).alloc (Nat.le_refl _) _).drew) ⟨w2.heap.size, 0, none⟩ 1 1 [.int .i64 c, .int .i64 (gcls c), .int .i64 p.b, .int .i64 p.g, .int .i64 p.l, .int .i64 p.c] (by simp [Act.eval]) rfl (World.news_of_block (w := (w2.alloc (.cells #[.int .i64 c, .int .i64 (gcls c), .int .i64 p.b, .int .i64 p.g, .int .i64 p.l, .int .i64 p.c] 46)).drew) (heap_alloc_new w2 _)) hone (by omega) (by unfold maxLen; omega) (by omega) (by simp; omega) _ rfl ?_; intro g1 cap1 w3 hown3 hgrow3 hat3 hlt3))
          all_goals
            have HS3 := hide ((HS2.out.below (((Below.refl _ _).alloc (Nat.le_refl _) _).drew)).more (g := ⟨c, p⟩) hgrow3 (by simpa [gflat_append, gflat] using hown3))
            clear hown3 hgrow3 hat3 hlt3 p0 p1 p2 p3 hf hown hsz hone hi0 hz0 hz1 hz2
            obtain ⟨hf, p0, p1, p2, p3⟩ := HS3.out.plc.cells
            go_wp2_with fail
            refine (behind_any w3 p c z (by have := HP.out.g; have := HP.out.l; have := HP.out.c; omega)).mono ?_
            rintro r w4 ⟨rfl, hb4⟩
            have HS4 := hide (HS3.out.below hb4)
            clear hb4 p0 p1 p2 p3 hf HS3 HS2
            generalize hpp : p.past c z = p' at HS4 ⊢
            have HPP := hide hpp
            clear hpp
            unfold Pl.v
            obtain ⟨hf, p0, p1, p2, p3⟩ := HS4.out.plc.cells
            have f0 := frozen_of_row w4 w.heap.size 0 _ _ HS4.out.plc
            have f1 := frozen_of_row w4 w.heap.size 1 _ _ HS4.out.plc
            have f2 := frozen_of_row w4 w.heap.size 2 _ _ HS4.out.plc
            have f3 := frozen_of_row w4 w.heap.size 3 _ _ HS4.out.plc
            have IP4 := hide ((HS4.out.place (p' := p')).itr)
            go_wp2
            go_roundw
            case rel =>
              have hb' : p'.b = p.b + z := by rw [← HPP.out]; rfl
              refine ⟨acc ++ [⟨c, p⟩], p', some ⟨g1, 0, none⟩, cap1, by simp, ?_, by rw [← HPP.out]; exact HP.out.past _ _ hd.1, by omega, by simp; omega, ?_⟩
              · have := HS4.out.place (p' := p')
                rw [← hb'] at this
                simpa using this
              · intro gs e h
                rw [List.append_assoc]
                refine HE.out _ _ ?_
                exact HSG.out gs e hbad (by rw [← HPP.out] at h; exact h)
            case measure =>
              rw [IP.out]
              unfold World.iterPos
              rw [IP4.out]
              simp only
              omega
    · have hnext := fun ty => Lib.run_next_end_at (P := Tryd.prog) wr (w.heap.size + 1) s p.b ty HS.out.itr (by omega)
      obtain ⟨hf, p0, p1, p2, p3⟩ := HS.out.plc.cells
      have f0 := frozen_of_row wr w.heap.size 0 _ _ HS.out.plc
      have f1 := frozen_of_row wr w.heap.size 1 _ _ HS.out.plc
      have f2 := frozen_of_row wr w.heap.size 2 _ _ HS.out.plc
      have f3 := frozen_of_row wr w.heap.size 3 _ _ HS.out.plc
      have hlt' : ¬ (p.b : Int) < (s.size : Int) := by omega
      go_wp2_with fail
      go_region
      go_wp2
      refine bodyPost_ret (v := _) (by simp [results, Tryd.results27, go_sem, p0, p1, p2, p3]; try rfl) rfl ⟨acc, p, _, ?_, rfl, ((HS.out.place (p' := p)).below (by (repeat' (first | (with_reducible exact Below.refl _ _) | (with_reducible assumption) | (with_reducible refine gdrewN ?_ _) | (with_reducible refine Below.alloc ?_ ?_ _) | (with_reducible refine Below.drew ?_) | (with_reducible refine Below.setCell ?_ ?_ _) | go_size)))).own, ((HS.out.place (p' := p)).below (by (repeat' (first | (with_reducible exact Below.refl _ _) | (with_reducible assumption) | (with_reducible refine gdrewN ?_ _) | (with_reducible refine Below.alloc ?_ ?_ _) | (with_reducible refine Below.drew ?_) | (with_reducible refine Below.setCell ?_ ?_ _) | go_size)))).bel⟩
      have := HE.out [] p (.stop p (.inl (by omega)))
      rwa [List.append_nil] at this
end Lm
end Go.Proofs.YtgfglefgpgckiaaDoor

namespace Go.Proofs
open Go.Shelf
shelf_lay LaysM.n316 Nm 316 at Tryd as Tryd.lays316
namespace YtgfglefgpgckiaaDoor
namespace Lm
open Go Go.RowKit
theorem clone_lite (w : World) (s : ByteArray) (h : s.size ≤ 281474976710656) :
    Calls Tryd.prog 73 #[.string s] w fun e w' => e = .returned (.string s) ∧ Below w.heap.size w w' := Any.stringslite_Clone Tryd.lays316 s w h
theorem sclone_any (w : World) (s : ByteArray) (h : s.size ≤ 281474976710656) :
    Calls Tryd.prog 66 #[.string s] w fun e w' => e = .returned (.string s) ∧ Below w.heap.size w w' := by
  go_enter Tryd.func66, Tryd.ntmps66
  go_wp2_with fail
  refine (clone_lite _ _ h).mono ?_
  rintro e w' ⟨rfl, hb⟩
  go_wp2
  go_ret
  exact ⟨rfl, hb⟩
end Lm
end YtgfglefgpgckiaaDoor
end Go.Proofs

namespace Go.Proofs.YtgfglefgpgckiaaDoor
namespace Lm
open Go Go.RowKit
theorem nums_new (w : World) (zs : List Int) (hl : zs.length ≤ 100) (e : TypeId) : Nums (w.alloc (.cells (zs.map (Value.int .i64)).toArray e)) (.slice (some ⟨w.heap.size, 0, none⟩) zs.length zs.length) zs := by
  refine ⟨_, _, rfl, Nat.le_refl _, by omega, by simp, .inr ⟨w.heap.size, 0, rfl, by simp [World.size_alloc], fun j u hu => ?_⟩⟩
  rw [cell_of_row _ w.heap.size _ _ _ _ (heap_alloc_new w _), Nat.zero_add]
  simpa using hu
def tok0 : Value := .agg #[.int .i64 0, .string ⟨#[]⟩, .int .i64 0, .int .i64 0, .int .i64 0, .int .i64 0]
def Tk0B (w : World) (f : Nat) : Prop := w.heap[f]? = some (.cells #[.int .i64 0, .string ⟨#[]⟩, .int .i64 0, .int .i64 0, .int .i64 0, .int .i64 0] 35 (0, 0))
theorem Tk0B.tq {w w' : World} {f q : Nat} (h : Tk0B w f) (ht : Tq w w' q) (hn : f ≠ q) : Tk0B w' f := (ht.other f (lt_of_heap h) hn).trans h
theorem Tk0B.below {w w' : World} {f : Nat} (h : Tk0B w f) (hb : Below w.heap.size w w') : Tk0B w' f := (hb.block f (lt_of_heap h)).trans h
structure Tk0C (w : World) (f : Nat) : Prop where
  hf : f < w.heap.size
  t0 : w.cell? ⟨f, 0, none⟩ = some (.int .i64 0)
  t1 : w.cell? ⟨f, 1, none⟩ = some (.string ⟨#[]⟩)
  t2 : w.cell? ⟨f, 2, none⟩ = some (.int .i64 0)
  t3 : w.cell? ⟨f, 3, none⟩ = some (.int .i64 0)
  t4 : w.cell? ⟨f, 4, none⟩ = some (.int .i64 0)
  t5 : w.cell? ⟨f, 5, none⟩ = some (.int .i64 0)
  f0 : w.frozen? ⟨f, 0, none⟩ = false
  f1 : w.frozen? ⟨f, 1, none⟩ = false
  f2 : w.frozen? ⟨f, 2, none⟩ = false
  f3 : w.frozen? ⟨f, 3, none⟩ = false
  f4 : w.frozen? ⟨f, 4, none⟩ = false
  f5 : w.frozen? ⟨f, 5, none⟩ = false
theorem Tk0B.cells {w : World} {f : Nat} (h : Tk0B w f) : Tk0C w f := by
  exact ⟨lt_of_heap h, by rw [cell_of_row w f 0 _ _ _ h]; rfl, by rw [cell_of_row w f 1 _ _ _ h]; rfl, by rw [cell_of_row w f 2 _ _ _ h]; rfl, by rw [cell_of_row w f 3 _ _ _ h]; rfl, by rw [cell_of_row w f 4 _ _ _ h]; rfl, by rw [cell_of_row w f 5 _ _ _ h]; rfl, frozen_of_row w f 0 _ _ h, frozen_of_row w f 1 _ _ h, frozen_of_row w f 2 _ _ h, frozen_of_row w f 3 _ _ h, frozen_of_row w f 4 _ _ h, frozen_of_row w f 5 _ _ h⟩
set_option maxRecDepth 20000 in
set_option maxHeartbeats 1000000 in
theorem name_any (w : World) (q : Nat) (s : ByteArray) (v : Value) (gs : List Gl) (i : Nat) (e : Pl) (h : Scn w q s v gs i e) (hn : gs.length ≤ 100000) (hQ : Snd s pl0 gs e) (hs : s.size ≤ 100000) :
    Calls Tryd.prog 50 #[.pointer (some ⟨q, 0, none⟩)] w fun r w' => ∃ j, i ≤ j ∧ gs.drop j = (gs.drop i).dropWhile (inC [2, 3, 4]) ∧ Scn w' q s v gs j e ∧ Tq w w' q ∧ ((16 < j - i ∧ r = .returned (.tuple #[tok0, .int .i64 42])) ∨ (j - i ≤ 16 ∧ r = .returned (.tuple #[.agg #[.int .i64 1, .string (s.extract (plf (gs.drop i) e).b (plf (gs.drop j) e).b), .int .i64 0, .int .i64 0, .int .i64 0, .int .i64 0], .int .i64 0]))) := by
  have H := hide h
  have hq := lt_of_heap h.blk
  clear h
  unfold tok0
  have hb0 : Below w.heap.size w ((w.alloc (.cells #[.int .i64 0, .string ⟨#[]⟩, .int .i64 0, .int .i64 0, .int .i64 0, .int .i64 0] 35)).alloc (.cells #[.int .i64 2, .int .i64 3, .int .i64 4] 3)) := below_two _ _ _
  have ht0 : Tk0B ((w.alloc (.cells #[.int .i64 0, .string ⟨#[]⟩, .int .i64 0, .int .i64 0, .int .i64 0, .int .i64 0] 35)).alloc (.cells #[.int .i64 2, .int .i64 3, .int .i64 4] 3)) w.heap.size := Tk0B.below (heap_alloc_new w _) ((Below.refl _ _).alloc (Nat.le_refl _) _)
  have hN := nums_new (w.alloc (.cells #[.int .i64 0, .string ⟨#[]⟩, .int .i64 0, .int .i64 0, .int .i64 0, .int .i64 0] 35)) [2, 3, 4] (by simp) 3
  simp only [World.size_alloc, List.map, List.length] at hN
  go_enter Tryd.func50, Tryd.ntmps50
  go_wp2_with fail
  refine (run_any _ q s v gs i e (H.out.below hb0) hn _ _ _ [2, 3, 4] hN (by rintro b off n c hv; simp only [Value.slice.injEq, Option.some.injEq, Addr.mk.injEq] at hv; omega) hQ hs).mono ?_
  rintro r w2 ⟨j, hij, hdj, rfl, hS, hT⟩
  have HS := hide hS
  have HT := hide ((Tq.of_below hb0).trans hT)
  have HT0 := hide (ht0.tq hT (by omega))
  clear hS hT hb0 ht0 hN
  have HDJ := hide hdj
  clear hdj
  generalize hf : w.heap.size = f at *
  replace hf : w.heap.size ≤ f := by omega
  have hqf : q ≠ f := by omega
  clear hq
  by_cases hlong : 16 < j - i
  · obtain ⟨hfl, t0, t1, t2, t3, t4, t5, f0, f1, f2, f3, f4, f5⟩ := HT0.out.cells
    have hl' : (16 : Int) < ((j - i : Nat) : Int) := by omega
    go_wp2
    refine bodyPost_ret (v := _) (by simp [results, Tryd.results50, go_sem, t0, t1, t2, t3, t4, t5]; try rfl) rfl ⟨j, hij, HDJ.out, ?_, ?_, .inl ⟨hlong, rfl⟩⟩
    · exact H.out.of_tq (HT.out.setNew hf 0 _ |>.setNew hf 1 _ |>.setNew hf 2 _ |>.setNew hf 3 _ |>.setNew hf 4 _ |>.setNew hf 5 _) ((six_other _ _ _ hqf _ _ _ _ _ _).trans HS.out.blk) HS.out.le
    · exact HT.out.setNew hf 0 _ |>.setNew hf 1 _ |>.setNew hf 2 _ |>.setNew hf 3 _ |>.setNew hf 4 _ |>.setNew hf 5 _
  · have hl' : decide ((16 : Int) < ((j - i : Nat) : Int)) = false := by simp; omega
    go_wp2_with fail
    refine (sclone_any _ _ (by simp; omega)).mono ?_
    rintro r w3 ⟨rfl, hb3⟩
    replace HT0 := hide (HT0.out.below hb3)
    replace HT := hide (HT.out.trans (.of_below hb3))
    replace HS := hide (HS.out.below hb3)
    clear hb3
    obtain ⟨hfl, t0, t1, t2, t3, t4, t5, f0, f1, f2, f3, f4, f5⟩ := HT0.out.cells
    go_wp2
    refine bodyPost_ret (v := _) (by simp [results, Tryd.results50, go_sem, t0, t1, t2, t3, t4, t5]; try rfl) rfl ⟨j, hij, HDJ.out, ?_, ?_, .inr ⟨by omega, rfl⟩⟩
    · exact H.out.of_tq (HT.out.setNew hf 0 _ |>.setNew hf 1 _ |>.setNew hf 2 _ |>.setNew hf 3 _ |>.setNew hf 4 _ |>.setNew hf 5 _) ((six_other _ _ _ hqf _ _ _ _ _ _).trans HS.out.blk) HS.out.le
    · exact HT.out.setNew hf 0 _ |>.setNew hf 1 _ |>.setNew hf 2 _ |>.setNew hf 3 _ |>.setNew hf 4 _ |>.setNew hf 5 _
end Lm
end Go.Proofs.YtgfglefgpgckiaaDoor

namespace Go.Proofs.YtgfglefgpgckiaaDoor
namespace Lm
open Go Go.RowKit
open Dm (Err Fine)
set_option maxRecDepth 20000 in
set_option maxHeartbeats 1000000 in
theorem number_any (w : World) (q : Nat) (s : ByteArray) (v : Value) (gs : List Gl) (i : Nat) (e : Pl) (h : Scn w q s v gs i e) (hn : gs.length ≤ 100000) (hQ : Snd s pl0 gs e) (hs : s.size ≤ 4096) (hne : (plf (gs.drop i) e).b < (plf ((gs.drop i).dropWhile (inC [3])) e).b) :
    Calls Tryd.prog 51 #[.pointer (some ⟨q, 0, none⟩)] w fun r w' => ∃ j, i ≤ j ∧ gs.drop j = (gs.drop i).dropWhile (inC [3]) ∧ Scn w' q s v gs j e ∧ Tq w w' q ∧ ∃ n ds, IsLen (dval (bytesOf (s.extract (plf (gs.drop i) e).b (plf (gs.drop j) e).b))) n ∧ IsDec ds (dval (bytesOf (s.extract (plf (gs.drop i) e).b (plf (gs.drop j) e).b))) ∧ ((32 < n ∧ r = .returned (.tuple #[tok0, .int .i64 2])) ∨ (n ≤ 32 ∧ r = .returned (.tuple #[.agg #[.int .i64 2, .string (strOfNums ds), .int .i64 0, .int .i64 0, .int .i64 0, .int .i64 0], .int .i64 0]))) := by
  have H := hide h
  have hq := lt_of_heap h.blk
  have hD := hQ.drop pl0_ok (Nat.zero_le _) i h.le
  have hG := hD.1.digits hD.2.1 hD.2.2.2.1
  have HF : Hid (Fine (s.extract (plf (gs.drop i) e).b (plf ((gs.drop i).dropWhile (inC [3])) e).b)) := by
    refine ⟨?_, ?_, hG.1⟩
    · rw [ByteArray.size_extract]; omega
    · rw [ByteArray.size_extract]; omega
  clear h hD hG hne
  unfold tok0
  have hb0 : Below w.heap.size w ((w.alloc (.cells #[.int .i64 0, .string ⟨#[]⟩, .int .i64 0, .int .i64 0, .int .i64 0, .int .i64 0] 35)).alloc (.cells #[.int .i64 3] 3)) := below_two _ _ _
  have ht0 : Tk0B ((w.alloc (.cells #[.int .i64 0, .string ⟨#[]⟩, .int .i64 0, .int .i64 0, .int .i64 0, .int .i64 0] 35)).alloc (.cells #[.int .i64 3] 3)) w.heap.size := Tk0B.below (heap_alloc_new w _) ((Below.refl _ _).alloc (Nat.le_refl _) _)
  have hN := nums_new (w.alloc (.cells #[.int .i64 0, .string ⟨#[]⟩, .int .i64 0, .int .i64 0, .int .i64 0, .int .i64 0] 35)) [3] (by simp) 3
  simp only [World.size_alloc, List.map, List.length] at hN
  go_enter Tryd.func51, Tryd.ntmps51
  go_wp2_with fail
  refine (run_any _ q s v gs i e (H.out.below hb0) hn _ _ _ [3] hN (by rintro b off n c hv; simp only [Value.slice.injEq, Option.some.injEq, Addr.mk.injEq] at hv; omega) hQ (by omega)).mono ?_
  rintro r w2 ⟨j, hij, hdj, rfl, hS, hT⟩
  have HS := hide hS
  have HT := hide ((Tq.of_below hb0).trans hT)
  have HT0 := hide (ht0.tq hT (by omega))
  clear hS hT hb0 ht0 hN
  rw [← hdj] at HF
  have HDJ := hide hdj
  clear hdj
  generalize htx : s.extract (plf (gs.drop i) e).b (plf (gs.drop j) e).b = t at HF ⊢
  have HTX := hide htx
  clear htx
  generalize hf : w.heap.size = f at *
  replace hf : w.heap.size ≤ f := by omega
  have hqf : q ≠ f := by omega
  clear hq
  go_wp2_with fail
  refine (parse_e _ _).mono ?_
  rintro r w3 ⟨hr, hb3⟩
  replace HT0 := hide (HT0.out.below hb3)
  replace HT := hide (HT.out.trans (.of_below hb3))
  replace HS := hide (HS.out.below hb3)
  clear hb3
  rcases hr with ⟨k, hk, rfl⟩ | ⟨_, u, rfl, rs, hO, hC, hV⟩
  · exfalso
    obtain ⟨x1, x2, x3⟩ := HF.out
    rcases hk with hk | hk
    · omega
    · exact hk.2.2 ⟨x1, x3⟩
  obtain ⟨ao, cap, rfl, c1, c2, c3, c4⟩ := hO.sl
  have HO := hide hO
  have HC := hide (And.intro hC hV)
  have hlen : rs.length ≤ 1000000 := by
    have h1 := dval_bounds HF.out.2.2
    rw [bytesOf_length, ← hV] at h1
    have h2 := p10_mono (m := t.size) (n := 5120) HF.out.2.1
    have h3 := gp10_le_pw 5120
    have h4 := canon_len hC (m := 5120) (by omega)
    omega
  clear hO hC hV c4
  by_cases hbig : 32 < rs.length
  · obtain ⟨DS, hds⟩ := gdec_of HF.out.2.2
    have HDS := hide hds
    clear hds
    obtain ⟨hfl, t0, t1, t2, t3, t4, t5, f0, f1, f2, f3, f4, f5⟩ := HT0.out.cells
    have hl' : (32 : Int) < (rs.length : Int) := by omega
    go_wp2
    refine bodyPost_ret (v := _) (by simp [results, Tryd.results51, go_sem, t0, t1, t2, t3, t4, t5]; try rfl) rfl ⟨j, hij, HDJ.out, ?_, ?_, _, DS, by rw [HTX.out]; exact ⟨_, HC.out.1, HC.out.2, rfl⟩, by rw [HTX.out]; exact HDS.out, .inl ⟨hbig, rfl⟩⟩
    · exact H.out.of_tq (HT.out.setNew hf 0 _ |>.setNew hf 1 _ |>.setNew hf 2 _ |>.setNew hf 3 _ |>.setNew hf 4 _ |>.setNew hf 5 _) ((six_other _ _ _ hqf _ _ _ _ _ _).trans HS.out.blk) HS.out.le
    · exact HT.out.setNew hf 0 _ |>.setNew hf 1 _ |>.setNew hf 2 _ |>.setNew hf 3 _ |>.setNew hf 4 _ |>.setNew hf 5 _
  · have hl' : decide ((32 : Int) < (rs.length : Int)) = false := by simp; omega
    go_wp2_with fail
    refine (text_any _ _ _ _ _ HO.out.sl hlen).mono ?_
    rintro r w4 ⟨DS, rfl, hds, hb4⟩
    rw [HC.out.2] at hds
    have HDS := hide hds
    replace HT0 := hide (HT0.out.below hb4)
    replace HT := hide (HT.out.trans (.of_below hb4))
    replace HS := hide (HS.out.below hb4)
    clear hb4 hds
    obtain ⟨hfl, t0, t1, t2, t3, t4, t5, f0, f1, f2, f3, f4, f5⟩ := HT0.out.cells
    go_wp2
    refine bodyPost_ret (v := _) (by simp [results, Tryd.results51, go_sem, t0, t1, t2, t3, t4, t5]; try rfl) rfl ⟨j, hij, HDJ.out, ?_, ?_, _, DS, by rw [HTX.out]; exact ⟨_, HC.out.1, HC.out.2, rfl⟩, by rw [HTX.out]; exact HDS.out, .inr ⟨by omega, rfl⟩⟩
    · exact H.out.of_tq (HT.out.setNew hf 0 _ |>.setNew hf 1 _ |>.setNew hf 2 _ |>.setNew hf 3 _ |>.setNew hf 4 _ |>.setNew hf 5 _) ((six_other _ _ _ hqf _ _ _ _ _ _).trans HS.out.blk) HS.out.le
    · exact HT.out.setNew hf 0 _ |>.setNew hf 1 _ |>.setNew hf 2 _ |>.setNew hf 3 _ |>.setNew hf 4 _ |>.setNew hf 5 _
end Lm
end Go.Proofs.YtgfglefgpgckiaaDoor

namespace Go.Proofs.YtgfglefgpgckiaaDoor
namespace Lm
open Go Go.RowKit
theorem encode_one {c : Int} (h : 0 ≤ c ∧ c < 128) : Utf8.encode c = strOfNums [c] := by
  obtain ⟨n, rfl⟩ : ∃ n : Nat, c = n := ⟨c.toNat, by omega⟩
  unfold Utf8.encode
  have hv : Utf8.valid (n : Int) = true := by simp [Utf8.valid]; omega
  simp only [hv, if_true]
  rw [if_pos (by omega)]
  rfl
theorem Tq.six {w w' : World} {q f : Nat} (h : Tq w w' q) (hf : w.heap.size ≤ f) (u0 u1 u2 u3 u4 u5 : Value) : Tq w ((((((w'.setCell ⟨f, 0, none⟩ u0).setCell ⟨f, 1, none⟩ u1).setCell ⟨f, 2, none⟩ u2).setCell ⟨f, 3, none⟩ u3).setCell ⟨f, 4, none⟩ u4).setCell ⟨f, 5, none⟩ u5) q :=
  h.setNew hf 0 _ |>.setNew hf 1 _ |>.setNew hf 2 _ |>.setNew hf 3 _ |>.setNew hf 4 _ |>.setNew hf 5 _
set_option maxRecDepth 20000 in
set_option maxHeartbeats 1000000 in
theorem sign_one (w : World) (q : Nat) (s : ByteArray) (v : Value) (gs : List Gl) (i : Nat) (e : Pl) (h : Scn w q s v gs i e) (hn : gs.length ≤ 100000) (g : Gl) (hg : gs[i]? = some g) (c : Int) (hc : gfold g.code = c) (h0 : 0 ≤ c ∧ c < 128) (h1 : c ≠ 58) (h2 : c ≠ 33) :
    Calls Tryd.prog 52 #[.pointer (some ⟨q, 0, none⟩)] w fun r w' => Scn w' q s v gs (i + 1) e ∧ Tq w w' q ∧ r = .returned (.tuple #[.agg #[.int .i64 3, .string (strOfNums [c]), .int .i64 0, .int .i64 0, .int .i64 0, .int .i64 0], .int .i64 0]) := by
  have H := hide h
  have hi : i < gs.length := (List.getElem?_eq_some_iff.1 hg).1
  have hil : (i : Int) < 100000 := by omega
  obtain ⟨ao, cap, rfl⟩ := h.gls.isSlice
  obtain ⟨b, off, rfl, hG⟩ := h.gls.glyph hg
  obtain ⟨hq, k0, k1, k2, k3, k4, k5, k6⟩ := h.cells
  obtain ⟨hb, g0, g1, g2, g3, g4, g5⟩ := hG
  have hfr := h.free 2
  have hi' : (i : Int) < (gs.length : Int) := by omega
  have KF : ∀ w, Calls Tryd.prog 58 #[.int .i64 g.code] w fun e w' => e = .returned (.int .i64 c) ∧ w' = w := fun w => by rw [← hc]; exact gfold_any w _
  have n8788 : (c == 8788) = false := beq_eq_false_iff_ne.2 (by omega)
  have n8800 : (c == 8800) = false := beq_eq_false_iff_ne.2 (by omega)
  have n58 : (c == 58) = false := beq_eq_false_iff_ne.2 (by omega)
  have n33 : (c == 33) = false := beq_eq_false_iff_ne.2 (by omega)
  clear h hg hc k0 k3 k4 k5 k6 g1 g2 g3 g4 g5
  go_enter Tryd.func52, Tryd.ntmps52
  go_wp2_with fail
  go_quiet ((go_at_call 58; exact Calls.quiet_of_same (KF _)))
  go_wp2
  refine bodyPost_ret (v := _) (by simp [results, Tryd.results52, go_sem]; try rfl) rfl ⟨?_, ?_, ?_⟩
  · refine H.out.of_tq (Tq.six ((Tq.of_below (by (repeat' (first | (with_reducible exact Below.refl _ _) | (with_reducible assumption) | (with_reducible refine gdrewN ?_ _) | (with_reducible refine Below.alloc ?_ ?_ _) | (with_reducible refine Below.drew ?_) | (with_reducible refine Below.setCell ?_ ?_ _) | go_size)))).set 2 _) (Nat.le_refl _) _ _ _ _ _ _) ((six_other _ _ _ (by omega) _ _ _ _ _ _).trans ?_) (by omega)
    rw [heap_setCell_same _ q 2 _ _ _ ((Below.block (B := w.heap.size) (by (repeat' (first | (with_reducible exact Below.refl _ _) | (with_reducible assumption) | (with_reducible refine gdrewN ?_ _) | (with_reducible refine Below.alloc ?_ ?_ _) | (with_reducible refine Below.drew ?_) | (with_reducible refine Below.setCell ?_ ?_ _) | go_size))) q hq).trans H.out.blk)]
    simp
  · exact Tq.six ((Tq.of_below (by (repeat' (first | (with_reducible exact Below.refl _ _) | (with_reducible assumption) | (with_reducible refine gdrewN ?_ _) | (with_reducible refine Below.alloc ?_ ?_ _) | (with_reducible refine Below.drew ?_) | (with_reducible refine Below.setCell ?_ ?_ _) | go_size)))).set 2 _) (Nat.le_refl _) _ _ _ _ _ _
  · simp [encode_one h0]
set_option maxRecDepth 20000 in
set_option maxHeartbeats 1000000 in
theorem sign_becomes (w : World) (q : Nat) (s : ByteArray) (v : Value) (gs : List Gl) (i : Nat) (e : Pl) (h : Scn w q s v gs i e) (hn : gs.length ≤ 100000) (g : Gl) (hg : gs[i]? = some g) (c : Int) (hc : gfold g.code = c) (h0 : c = 8788) :
    Calls Tryd.prog 52 #[.pointer (some ⟨q, 0, none⟩)] w fun r w' => Scn w' q s v gs (i + 1) e ∧ Tq w w' q ∧ r = .returned (.tuple #[.agg #[.int .i64 3, .string (strOfNums [58, 61]), .int .i64 0, .int .i64 0, .int .i64 0, .int .i64 0], .int .i64 0]) := by
  have H := hide h
  have hi : i < gs.length := (List.getElem?_eq_some_iff.1 hg).1
  have hil : (i : Int) < 100000 := by omega
  obtain ⟨ao, cap, rfl⟩ := h.gls.isSlice
  obtain ⟨b, off, rfl, hG⟩ := h.gls.glyph hg
  obtain ⟨hq, k0, k1, k2, k3, k4, k5, k6⟩ := h.cells
  obtain ⟨hb, g0, g1, g2, g3, g4, g5⟩ := hG
  have hfr := h.free 2
  have hi' : (i : Int) < (gs.length : Int) := by omega
  have KF : ∀ w, Calls Tryd.prog 58 #[.int .i64 g.code] w fun e w' => e = .returned (.int .i64 c) ∧ w' = w := fun w => by rw [← hc]; exact gfold_any w _
  subst h0
  clear h hg hc k0 k3 k4 k5 k6 g1 g2 g3 g4 g5
  go_enter Tryd.func52, Tryd.ntmps52
  go_wp2_with fail
  go_quiet ((go_at_call 58; exact Calls.quiet_of_same (KF _)))
  go_wp2
  refine bodyPost_ret (v := _) (by simp [results, Tryd.results52, go_sem]; try rfl) rfl ⟨?_, ?_, ?_⟩
  · refine H.out.of_tq (Tq.six ((Tq.of_below (by (repeat' (first | (with_reducible exact Below.refl _ _) | (with_reducible assumption) | (with_reducible refine gdrewN ?_ _) | (with_reducible refine Below.alloc ?_ ?_ _) | (with_reducible refine Below.drew ?_) | (with_reducible refine Below.setCell ?_ ?_ _) | go_size)))).set 2 _) (Nat.le_refl _) _ _ _ _ _ _) ((six_other _ _ _ (by omega) _ _ _ _ _ _).trans ?_) (by omega)
    rw [heap_setCell_same _ q 2 _ _ _ ((Below.block (B := w.heap.size) (by (repeat' (first | (with_reducible exact Below.refl _ _) | (with_reducible assumption) | (with_reducible refine gdrewN ?_ _) | (with_reducible refine Below.alloc ?_ ?_ _) | (with_reducible refine Below.drew ?_) | (with_reducible refine Below.setCell ?_ ?_ _) | go_size))) q hq).trans H.out.blk)]
    simp
  · exact Tq.six ((Tq.of_below (by (repeat' (first | (with_reducible exact Below.refl _ _) | (with_reducible assumption) | (with_reducible refine gdrewN ?_ _) | (with_reducible refine Below.alloc ?_ ?_ _) | (with_reducible refine Below.drew ?_) | (with_reducible refine Below.setCell ?_ ?_ _) | go_size)))).set 2 _) (Nat.le_refl _) _ _ _ _ _ _
  · rfl
set_option maxRecDepth 20000 in
set_option maxHeartbeats 1000000 in
theorem sign_unlike (w : World) (q : Nat) (s : ByteArray) (v : Value) (gs : List Gl) (i : Nat) (e : Pl) (h : Scn w q s v gs i e) (hn : gs.length ≤ 100000) (g : Gl) (hg : gs[i]? = some g) (c : Int) (hc : gfold g.code = c) (h0 : c = 8800) :
    Calls Tryd.prog 52 #[.pointer (some ⟨q, 0, none⟩)] w fun r w' => Scn w' q s v gs (i + 1) e ∧ Tq w w' q ∧ r = .returned (.tuple #[.agg #[.int .i64 3, .string (strOfNums [33, 61]), .int .i64 0, .int .i64 0, .int .i64 0, .int .i64 0], .int .i64 0]) := by
  have H := hide h
  have hi : i < gs.length := (List.getElem?_eq_some_iff.1 hg).1
  have hil : (i : Int) < 100000 := by omega
  obtain ⟨ao, cap, rfl⟩ := h.gls.isSlice
  obtain ⟨b, off, rfl, hG⟩ := h.gls.glyph hg
  obtain ⟨hq, k0, k1, k2, k3, k4, k5, k6⟩ := h.cells
  obtain ⟨hb, g0, g1, g2, g3, g4, g5⟩ := hG
  have hfr := h.free 2
  have hi' : (i : Int) < (gs.length : Int) := by omega
  have KF : ∀ w, Calls Tryd.prog 58 #[.int .i64 g.code] w fun e w' => e = .returned (.int .i64 c) ∧ w' = w := fun w => by rw [← hc]; exact gfold_any w _
  subst h0
  clear h hg hc k0 k3 k4 k5 k6 g1 g2 g3 g4 g5
  go_enter Tryd.func52, Tryd.ntmps52
  go_wp2_with fail
  go_quiet ((go_at_call 58; exact Calls.quiet_of_same (KF _)))
  go_wp2
  refine bodyPost_ret (v := _) (by simp [results, Tryd.results52, go_sem]; try rfl) rfl ⟨?_, ?_, ?_⟩
  · refine H.out.of_tq (Tq.six ((Tq.of_below (by (repeat' (first | (with_reducible exact Below.refl _ _) | (with_reducible assumption) | (with_reducible refine gdrewN ?_ _) | (with_reducible refine Below.alloc ?_ ?_ _) | (with_reducible refine Below.drew ?_) | (with_reducible refine Below.setCell ?_ ?_ _) | go_size)))).set 2 _) (Nat.le_refl _) _ _ _ _ _ _) ((six_other _ _ _ (by omega) _ _ _ _ _ _).trans ?_) (by omega)
    rw [heap_setCell_same _ q 2 _ _ _ ((Below.block (B := w.heap.size) (by (repeat' (first | (with_reducible exact Below.refl _ _) | (with_reducible assumption) | (with_reducible refine gdrewN ?_ _) | (with_reducible refine Below.alloc ?_ ?_ _) | (with_reducible refine Below.drew ?_) | (with_reducible refine Below.setCell ?_ ?_ _) | go_size))) q hq).trans H.out.blk)]
    simp
  · exact Tq.six ((Tq.of_below (by (repeat' (first | (with_reducible exact Below.refl _ _) | (with_reducible assumption) | (with_reducible refine gdrewN ?_ _) | (with_reducible refine Below.alloc ?_ ?_ _) | (with_reducible refine Below.drew ?_) | (with_reducible refine Below.setCell ?_ ?_ _) | go_size)))).set 2 _) (Nat.le_refl _) _ _ _ _ _ _
  · rfl
set_option maxRecDepth 20000 in
set_option maxHeartbeats 1000000 in
theorem sign_colon (w : World) (q : Nat) (s : ByteArray) (v : Value) (gs : List Gl) (i : Nat) (e : Pl) (h : Scn w q s v gs i e) (hn : gs.length ≤ 100000) (g : Gl) (hg : gs[i]? = some g) (c : Int) (hc : gfold g.code = c) (h0 : c = 58) (gn : Gl) (hg2 : gs[i + 1]? = some gn) (he2 : gn.code = 61) :
    Calls Tryd.prog 52 #[.pointer (some ⟨q, 0, none⟩)] w fun r w' => Scn w' q s v gs (i + 2) e ∧ Tq w w' q ∧ r = .returned (.tuple #[.agg #[.int .i64 3, .string (strOfNums [58, 61]), .int .i64 0, .int .i64 0, .int .i64 0, .int .i64 0], .int .i64 0]) := by
  have H := hide h
  have hi : i < gs.length := (List.getElem?_eq_some_iff.1 hg).1
  have hil : (i : Int) < 100000 := by omega
  obtain ⟨ao, cap, rfl⟩ := h.gls.isSlice
  obtain ⟨b, off, rfl, hG⟩ := h.gls.glyph hg
  obtain ⟨hq, k0, k1, k2, k3, k4, k5, k6⟩ := h.cells
  obtain ⟨hb, g0, g1, g2, g3, g4, g5⟩ := hG
  have hfr := h.free 2
  have hi' : (i : Int) < (gs.length : Int) := by omega
  have KF : ∀ w, Calls Tryd.prog 58 #[.int .i64 g.code] w fun e w' => e = .returned (.int .i64 c) ∧ w' = w := fun w => by rw [← hc]; exact gfold_any w _
  subst h0
  clear h hg hc k0 k3 k4 k5 k6 g1 g2 g3 g4 g5
  go_enter Tryd.func52, Tryd.ntmps52
  go_wp2_with fail
  go_quiet ((go_at_call 58; exact Calls.quiet_of_same (KF _)))
  go_wp2_with fail
  generalize hE : Utf8.encode 58 = T
  have HE := hide ((encode_one (c := 58) (by omega)).symm.trans hE)
  have hTs : T.size ≤ 10 := by rw [← HE.out, strOfNums_size]; simp
  have hadd : ∀ w, (Op.stringOp .add T ⟨#[61]⟩).run Tryd.prog w = .ok (.string (T ++ ⟨#[61]⟩)) w := fun w => run_string_add_sum (P := Tryd.prog) w T ⟨#[61]⟩ (by show T.size + 1 ≤ _; omega)
  generalize hU : T ++ (⟨#[61]⟩ : ByteArray) = U at hadd
  have HU := hide hU
  clear hU hTs
  clear hE
  have hbq : Below w.heap.size w ((w.alloc (.cells #[.int .i64 0, .string ⟨#[]⟩, .int .i64 0, .int .i64 0, .int .i64 0, .int .i64 0] 35)).drewN nq) := by (repeat' (first | (with_reducible exact Below.refl _ _) | (with_reducible assumption) | (with_reducible refine gdrewN ?_ _) | (with_reducible refine Below.alloc ?_ ?_ _) | (with_reducible refine Below.drew ?_) | (with_reducible refine Below.setCell ?_ ?_ _) | go_size))
  have HT1 := hide ((Tq.of_below (q := q) hbq).set 2 (.int .i64 ((i : Int) + 1)))
  have HS1 := hide ((H.out.below hbq).set (by omega))
  have HT0 : Hid (Tk0B (((w.alloc (.cells #[.int .i64 0, .string ⟨#[]⟩, .int .i64 0, .int .i64 0, .int .i64 0, .int .i64 0] 35)).drewN nq).setCell ⟨q, 2, none⟩ (.int .i64 ((i : Int) + 1))) w.heap.size) := ((heap_setCell_other _ ⟨q, 2, none⟩ w.heap.size _ (by show w.heap.size ≠ q; omega)).trans (heap_alloc_new w _))
  clear hbq k1 k2 hfr g0 hb
  generalize ((w.alloc (.cells #[.int .i64 0, .string ⟨#[]⟩, .int .i64 0, .int .i64 0, .int .i64 0, .int .i64 0] 35)).drewN nq).setCell ⟨q, 2, none⟩ (.int .i64 ((i : Int) + 1)) = w1 at HT1 HS1 HT0 ⊢
  obtain ⟨m, hm⟩ : ∃ m, m = i + 1 := ⟨_, rfl⟩
  rw [← hm] at HS1 hg2
  obtain ⟨b2, off2, e2, hG2⟩ := HS1.out.gls.glyph hg2
  obtain ⟨rfl, rfl⟩ : b2 = b ∧ off2 = off := by simpa [eq_comm] using e2
  obtain ⟨hq1, k0, k1, k2, k3, k4, k5, k6⟩ := HS1.out.cells
  obtain ⟨hb, g0, g1, g2, g3, g4, g5⟩ := hG2
  rw [he2] at g0
  have hfr := HS1.out.free 2
  obtain ⟨hfl, t0, t1, t2, t3, t4, t5, f0, f1, f2, f3, f4, f5⟩ := HT0.out.cells
  have hi2 : (m : Int) < (gs.length : Int) := by have := (List.getElem?_eq_some_iff.1 hg2).1; omega
  have hne2 : ((m : Int) == (gs.length : Int)) = false := beq_eq_false_iff_ne.2 (by omega)
  have HM := hide hm
  clear e2 k0 k3 k4 k5 k6 g1 g2 g3 g4 g5 hm
  go_wp2_with fail
  go_quiet (fail)
  clear k1 k2 g0 t0 t1 t2 t3 t4 t5 f0 f1 f2 f3 f4 f5 hfr hfl hb hq1
  have hbq : Below w1.heap.size w1 (w1.drewN nq) := by (repeat' (first | (with_reducible exact Below.refl _ _) | (with_reducible assumption) | (with_reducible refine gdrewN ?_ _) | (with_reducible refine Below.alloc ?_ ?_ _) | (with_reducible refine Below.drew ?_) | (with_reducible refine Below.setCell ?_ ?_ _) | go_size))
  replace HT1 := hide (HT1.out.trans (.of_below hbq))
  replace HS1 := hide (HS1.out.below hbq)
  replace HT0 := hide (HT0.out.below hbq)
  clear hbq
  generalize w1.drewN nq = w2 at HT1 HS1 HT0 ⊢
  generalize hf : w.heap.size = f at *
  replace hf : w.heap.size ≤ f := by omega
  have hqf : q ≠ f := by omega
  obtain ⟨hq1, k0, k1, k2, k3, k4, k5, k6⟩ := HS1.out.cells
  have hfr := HS1.out.free 2
  clear k0 k1 k3 k4 k5 k6
  have hml : (m : Int) < 100000 := by omega
  obtain ⟨hfl, t0, t1, t2, t3, t4, t5, f0, f1, f2, f3, f4, f5⟩ := HT0.out.cells
  clear hne2 hg2 he2 hi hil KF
  go_wp2
  refine bodyPost_ret (v := _) (by simp [results, Tryd.results52, go_sem, t0, t1, t2, t3, t4, t5]; try rfl) rfl ⟨?_, ?_, ?_⟩
  · refine H.out.of_tq (Tq.six (HT1.out.set 2 _) hf _ _ _ _ _ _) ((six_other _ _ _ hqf _ _ _ _ _ _).trans ?_) (by have := HM.out; omega)
    rw [heap_setCell_same w2 q 2 _ _ _ HS1.out.blk]
    have := HM.out
    simp
    omega
  · exact Tq.six (HT1.out.set 2 _) hf _ _ _ _ _ _
  · rw [← HU.out, ← HE.out]
    rfl
set_option maxRecDepth 20000 in
set_option maxHeartbeats 1000000 in
theorem sign_colon_other (w : World) (q : Nat) (s : ByteArray) (v : Value) (gs : List Gl) (i : Nat) (e : Pl) (h : Scn w q s v gs i e) (hn : gs.length ≤ 100000) (g : Gl) (hg : gs[i]? = some g) (c : Int) (hc : gfold g.code = c) (h0 : c = 58) (gn : Gl) (hg2 : gs[i + 1]? = some gn) (he2 : gn.code ≠ 61) :
    Calls Tryd.prog 52 #[.pointer (some ⟨q, 0, none⟩)] w fun r w' => Scn w' q s v gs (i + 1) e ∧ Tq w w' q ∧ r = .returned (.tuple #[tok0, .int .i64 41]) := by
  have H := hide h
  have hi : i < gs.length := (List.getElem?_eq_some_iff.1 hg).1
  have hil : (i : Int) < 100000 := by omega
  obtain ⟨ao, cap, rfl⟩ := h.gls.isSlice
  obtain ⟨b, off, rfl, hG⟩ := h.gls.glyph hg
  obtain ⟨hq, k0, k1, k2, k3, k4, k5, k6⟩ := h.cells
  obtain ⟨hb, g0, g1, g2, g3, g4, g5⟩ := hG
  have hfr := h.free 2
  have hi' : (i : Int) < (gs.length : Int) := by omega
  have KF : ∀ w, Calls Tryd.prog 58 #[.int .i64 g.code] w fun e w' => e = .returned (.int .i64 c) ∧ w' = w := fun w => by rw [← hc]; exact gfold_any w _
  subst h0
  clear h hg hc k0 k3 k4 k5 k6 g1 g2 g3 g4 g5
  unfold tok0
  go_enter Tryd.func52, Tryd.ntmps52
  go_wp2_with fail
  go_quiet ((go_at_call 58; exact Calls.quiet_of_same (KF _)))
  go_wp2_with fail
  generalize hE : Utf8.encode 58 = T
  have HE := hide ((encode_one (c := 58) (by omega)).symm.trans hE)
  have hTs : T.size ≤ 10 := by rw [← HE.out, strOfNums_size]; simp
  have hadd : ∀ w, (Op.stringOp .add T ⟨#[61]⟩).run Tryd.prog w = .ok (.string (T ++ ⟨#[61]⟩)) w := fun w => run_string_add_sum (P := Tryd.prog) w T ⟨#[61]⟩ (by show T.size + 1 ≤ _; omega)
  generalize hU : T ++ (⟨#[61]⟩ : ByteArray) = U at hadd
  have HU := hide hU
  clear hU hTs
  clear hE
  have hbq : Below w.heap.size w ((w.alloc (.cells #[.int .i64 0, .string ⟨#[]⟩, .int .i64 0, .int .i64 0, .int .i64 0, .int .i64 0] 35)).drewN nq) := by (repeat' (first | (with_reducible exact Below.refl _ _) | (with_reducible assumption) | (with_reducible refine gdrewN ?_ _) | (with_reducible refine Below.alloc ?_ ?_ _) | (with_reducible refine Below.drew ?_) | (with_reducible refine Below.setCell ?_ ?_ _) | go_size))
  have HT1 := hide ((Tq.of_below (q := q) hbq).set 2 (.int .i64 ((i : Int) + 1)))
  have HS1 := hide ((H.out.below hbq).set (by omega))
  have HT0 : Hid (Tk0B (((w.alloc (.cells #[.int .i64 0, .string ⟨#[]⟩, .int .i64 0, .int .i64 0, .int .i64 0, .int .i64 0] 35)).drewN nq).setCell ⟨q, 2, none⟩ (.int .i64 ((i : Int) + 1))) w.heap.size) := ((heap_setCell_other _ ⟨q, 2, none⟩ w.heap.size _ (by show w.heap.size ≠ q; omega)).trans (heap_alloc_new w _))
  clear hbq k1 k2 hfr g0 hb
  generalize ((w.alloc (.cells #[.int .i64 0, .string ⟨#[]⟩, .int .i64 0, .int .i64 0, .int .i64 0, .int .i64 0] 35)).drewN nq).setCell ⟨q, 2, none⟩ (.int .i64 ((i : Int) + 1)) = w1 at HT1 HS1 HT0 ⊢
  obtain ⟨m, hm⟩ : ∃ m, m = i + 1 := ⟨_, rfl⟩
  rw [← hm] at HS1 hg2
  obtain ⟨b2, off2, e2, hG2⟩ := HS1.out.gls.glyph hg2
  obtain ⟨rfl, rfl⟩ : b2 = b ∧ off2 = off := by simpa [eq_comm] using e2
  obtain ⟨hq1, k0, k1, k2, k3, k4, k5, k6⟩ := HS1.out.cells
  obtain ⟨hb, g0, g1, g2, g3, g4, g5⟩ := hG2
  have hne61 : ((gn.code : Int) != 61) = true := by simp; omega
  have hfr := HS1.out.free 2
  obtain ⟨hfl, t0, t1, t2, t3, t4, t5, f0, f1, f2, f3, f4, f5⟩ := HT0.out.cells
  have hi2 : (m : Int) < (gs.length : Int) := by have := (List.getElem?_eq_some_iff.1 hg2).1; omega
  have hne2 : ((m : Int) == (gs.length : Int)) = false := beq_eq_false_iff_ne.2 (by omega)
  have HM := hide hm
  clear e2 k0 k3 k4 k5 k6 g1 g2 g3 g4 g5 hm
  go_wp2_with fail
  go_quiet (fail)
  clear k1 k2 g0 t0 t1 t2 t3 t4 t5 f0 f1 f2 f3 f4 f5 hfr hfl hb hq1
  have hbq : Below w1.heap.size w1 (w1.drewN nq) := by (repeat' (first | (with_reducible exact Below.refl _ _) | (with_reducible assumption) | (with_reducible refine gdrewN ?_ _) | (with_reducible refine Below.alloc ?_ ?_ _) | (with_reducible refine Below.drew ?_) | (with_reducible refine Below.setCell ?_ ?_ _) | go_size))
  replace HT1 := hide (HT1.out.trans (.of_below hbq))
  replace HS1 := hide (HS1.out.below hbq)
  replace HT0 := hide (HT0.out.below hbq)
  clear hbq
  generalize w1.drewN nq = w2 at HT1 HS1 HT0 ⊢
  generalize hf : w.heap.size = f at *
  replace hf : w.heap.size ≤ f := by omega
  have hqf : q ≠ f := by omega
  obtain ⟨hq1, k0, k1, k2, k3, k4, k5, k6⟩ := HS1.out.cells
  have hfr := HS1.out.free 2
  clear k0 k1 k3 k4 k5 k6
  have hml : (m : Int) < 100000 := by omega
  obtain ⟨hfl, t0, t1, t2, t3, t4, t5, f0, f1, f2, f3, f4, f5⟩ := HT0.out.cells
  clear hne2 hg2 he2 hne61 hi hil KF
  go_wp2
  refine bodyPost_ret (v := _) (by simp [results, Tryd.results52, go_sem, t0, t1, t2, t3, t4, t5]; try rfl) rfl ⟨?_, ?_, ?_⟩
  · refine H.out.of_tq (Tq.six HT1.out hf _ _ _ _ _ _) ((six_other _ _ _ hqf _ _ _ _ _ _).trans ?_) (by have := HM.out; omega)
    rw [HS1.out.blk, HM.out]
  · exact Tq.six HT1.out hf _ _ _ _ _ _
  · rfl
set_option maxRecDepth 20000 in
set_option maxHeartbeats 1000000 in
theorem sign_colon_none (w : World) (q : Nat) (s : ByteArray) (v : Value) (gs : List Gl) (i : Nat) (e : Pl) (h : Scn w q s v gs i e) (hn : gs.length ≤ 100000) (g : Gl) (hg : gs[i]? = some g) (c : Int) (hc : gfold g.code = c) (h0 : c = 58) (hg2 : gs.length ≤ i + 1) :
    Calls Tryd.prog 52 #[.pointer (some ⟨q, 0, none⟩)] w fun r w' => Scn w' q s v gs (i + 1) e ∧ Tq w w' q ∧ r = .returned (.tuple #[tok0, .int .i64 41]) := by
  have H := hide h
  have hi : i < gs.length := (List.getElem?_eq_some_iff.1 hg).1
  have hil : (i : Int) < 100000 := by omega
  obtain ⟨ao, cap, rfl⟩ := h.gls.isSlice
  obtain ⟨b, off, rfl, hG⟩ := h.gls.glyph hg
  obtain ⟨hq, k0, k1, k2, k3, k4, k5, k6⟩ := h.cells
  obtain ⟨hb, g0, g1, g2, g3, g4, g5⟩ := hG
  have hfr := h.free 2
  have hi' : (i : Int) < (gs.length : Int) := by omega
  have KF : ∀ w, Calls Tryd.prog 58 #[.int .i64 g.code] w fun e w' => e = .returned (.int .i64 c) ∧ w' = w := fun w => by rw [← hc]; exact gfold_any w _
  subst h0
  clear h hg hc k0 k3 k4 k5 k6 g1 g2 g3 g4 g5
  unfold tok0
  go_enter Tryd.func52, Tryd.ntmps52
  go_wp2_with fail
  go_quiet ((go_at_call 58; exact Calls.quiet_of_same (KF _)))
  go_wp2_with fail
  generalize hE : Utf8.encode 58 = T
  have HE := hide ((encode_one (c := 58) (by omega)).symm.trans hE)
  have hTs : T.size ≤ 10 := by rw [← HE.out, strOfNums_size]; simp
  have hadd : ∀ w, (Op.stringOp .add T ⟨#[61]⟩).run Tryd.prog w = .ok (.string (T ++ ⟨#[61]⟩)) w := fun w => run_string_add_sum (P := Tryd.prog) w T ⟨#[61]⟩ (by show T.size + 1 ≤ _; omega)
  generalize hU : T ++ (⟨#[61]⟩ : ByteArray) = U at hadd
  have HU := hide hU
  clear hU hTs
  clear hE
  have hbq : Below w.heap.size w ((w.alloc (.cells #[.int .i64 0, .string ⟨#[]⟩, .int .i64 0, .int .i64 0, .int .i64 0, .int .i64 0] 35)).drewN nq) := by (repeat' (first | (with_reducible exact Below.refl _ _) | (with_reducible assumption) | (with_reducible refine gdrewN ?_ _) | (with_reducible refine Below.alloc ?_ ?_ _) | (with_reducible refine Below.drew ?_) | (with_reducible refine Below.setCell ?_ ?_ _) | go_size))
  have HT1 := hide ((Tq.of_below (q := q) hbq).set 2 (.int .i64 ((i : Int) + 1)))
  have HS1 := hide ((H.out.below hbq).set (by omega))
  have HT0 : Hid (Tk0B (((w.alloc (.cells #[.int .i64 0, .string ⟨#[]⟩, .int .i64 0, .int .i64 0, .int .i64 0, .int .i64 0] 35)).drewN nq).setCell ⟨q, 2, none⟩ (.int .i64 ((i : Int) + 1))) w.heap.size) := ((heap_setCell_other _ ⟨q, 2, none⟩ w.heap.size _ (by show w.heap.size ≠ q; omega)).trans (heap_alloc_new w _))
  clear hbq k1 k2 hfr g0 hb
  generalize ((w.alloc (.cells #[.int .i64 0, .string ⟨#[]⟩, .int .i64 0, .int .i64 0, .int .i64 0, .int .i64 0] 35)).drewN nq).setCell ⟨q, 2, none⟩ (.int .i64 ((i : Int) + 1)) = w1 at HT1 HS1 HT0 ⊢
  obtain ⟨m, hm⟩ : ∃ m, m = i + 1 := ⟨_, rfl⟩
  rw [← hm] at HS1
  obtain ⟨hq1, k0, k1, k2, k3, k4, k5, k6⟩ := HS1.out.cells
  obtain ⟨hfl, t0, t1, t2, t3, t4, t5, f0, f1, f2, f3, f4, f5⟩ := HT0.out.cells
  have hne2 : ((m : Int) == (gs.length : Int)) = true := by simp; omega
  have HM := hide hm
  clear k0 k3 k4 k5 k6 hm
  go_wp2_with fail
  go_quiet (fail)
  clear k1 k2 t0 t1 t2 t3 t4 t5 f0 f1 f2 f3 f4 f5 hfl hq1
  have hbq : Below w1.heap.size w1 (w1.drewN nq) := by (repeat' (first | (with_reducible exact Below.refl _ _) | (with_reducible assumption) | (with_reducible refine gdrewN ?_ _) | (with_reducible refine Below.alloc ?_ ?_ _) | (with_reducible refine Below.drew ?_) | (with_reducible refine Below.setCell ?_ ?_ _) | go_size))
  replace HT1 := hide (HT1.out.trans (.of_below hbq))
  replace HS1 := hide (HS1.out.below hbq)
  replace HT0 := hide (HT0.out.below hbq)
  clear hbq
  generalize w1.drewN nq = w2 at HT1 HS1 HT0 ⊢
  generalize hf : w.heap.size = f at *
  replace hf : w.heap.size ≤ f := by omega
  have hqf : q ≠ f := by omega
  obtain ⟨hq1, k0, k1, k2, k3, k4, k5, k6⟩ := HS1.out.cells
  have hfr := HS1.out.free 2
  clear k0 k1 k3 k4 k5 k6
  have hml : (m : Int) < 100001 := by have := HM.out; omega
  obtain ⟨hfl, t0, t1, t2, t3, t4, t5, f0, f1, f2, f3, f4, f5⟩ := HT0.out.cells
  clear hne2 hi hil KF
  go_wp2
  refine bodyPost_ret (v := _) (by simp [results, Tryd.results52, go_sem, t0, t1, t2, t3, t4, t5]; try rfl) rfl ⟨?_, ?_, ?_⟩
  · refine H.out.of_tq (Tq.six HT1.out hf _ _ _ _ _ _) ((six_other _ _ _ hqf _ _ _ _ _ _).trans ?_) (by have := HM.out; omega)
    rw [HS1.out.blk, HM.out]
  · exact Tq.six HT1.out hf _ _ _ _ _ _
  · rfl
set_option maxRecDepth 20000 in
set_option maxHeartbeats 1000000 in
theorem sign_bang (w : World) (q : Nat) (s : ByteArray) (v : Value) (gs : List Gl) (i : Nat) (e : Pl) (h : Scn w q s v gs i e) (hn : gs.length ≤ 100000) (g : Gl) (hg : gs[i]? = some g) (c : Int) (hc : gfold g.code = c) (h0 : c = 33) (gn : Gl) (hg2 : gs[i + 1]? = some gn) (he2 : gn.code = 61) :
    Calls Tryd.prog 52 #[.pointer (some ⟨q, 0, none⟩)] w fun r w' => Scn w' q s v gs (i + 2) e ∧ Tq w w' q ∧ r = .returned (.tuple #[.agg #[.int .i64 3, .string (strOfNums [33, 61]), .int .i64 0, .int .i64 0, .int .i64 0, .int .i64 0], .int .i64 0]) := by
  have H := hide h
  have hi : i < gs.length := (List.getElem?_eq_some_iff.1 hg).1
  have hil : (i : Int) < 100000 := by omega
  obtain ⟨ao, cap, rfl⟩ := h.gls.isSlice
  obtain ⟨b, off, rfl, hG⟩ := h.gls.glyph hg
  obtain ⟨hq, k0, k1, k2, k3, k4, k5, k6⟩ := h.cells
  obtain ⟨hb, g0, g1, g2, g3, g4, g5⟩ := hG
  have hfr := h.free 2
  have hi' : (i : Int) < (gs.length : Int) := by omega
  have KF : ∀ w, Calls Tryd.prog 58 #[.int .i64 g.code] w fun e w' => e = .returned (.int .i64 c) ∧ w' = w := fun w => by rw [← hc]; exact gfold_any w _
  subst h0
  clear h hg hc k0 k3 k4 k5 k6 g1 g2 g3 g4 g5
  go_enter Tryd.func52, Tryd.ntmps52
  go_wp2_with fail
  go_quiet ((go_at_call 58; exact Calls.quiet_of_same (KF _)))
  go_wp2_with fail
  generalize hE : Utf8.encode 33 = T
  have HE := hide ((encode_one (c := 33) (by omega)).symm.trans hE)
  have hTs : T.size ≤ 10 := by rw [← HE.out, strOfNums_size]; simp
  have hadd : ∀ w, (Op.stringOp .add T ⟨#[61]⟩).run Tryd.prog w = .ok (.string (T ++ ⟨#[61]⟩)) w := fun w => run_string_add_sum (P := Tryd.prog) w T ⟨#[61]⟩ (by show T.size + 1 ≤ _; omega)
  generalize hU : T ++ (⟨#[61]⟩ : ByteArray) = U at hadd
  have HU := hide hU
  clear hU hTs
  clear hE
  have hbq : Below w.heap.size w ((w.alloc (.cells #[.int .i64 0, .string ⟨#[]⟩, .int .i64 0, .int .i64 0, .int .i64 0, .int .i64 0] 35)).drewN nq) := by (repeat' (first | (with_reducible exact Below.refl _ _) | (with_reducible assumption) | (with_reducible refine gdrewN ?_ _) | (with_reducible refine Below.alloc ?_ ?_ _) | (with_reducible refine Below.drew ?_) | (with_reducible refine Below.setCell ?_ ?_ _) | go_size))
  have HT1 := hide ((Tq.of_below (q := q) hbq).set 2 (.int .i64 ((i : Int) + 1)))
  have HS1 := hide ((H.out.below hbq).set (by omega))
  have HT0 : Hid (Tk0B (((w.alloc (.cells #[.int .i64 0, .string ⟨#[]⟩, .int .i64 0, .int .i64 0, .int .i64 0, .int .i64 0] 35)).drewN nq).setCell ⟨q, 2, none⟩ (.int .i64 ((i : Int) + 1))) w.heap.size) := ((heap_setCell_other _ ⟨q, 2, none⟩ w.heap.size _ (by show w.heap.size ≠ q; omega)).trans (heap_alloc_new w _))
  clear hbq k1 k2 hfr g0 hb
  generalize ((w.alloc (.cells #[.int .i64 0, .string ⟨#[]⟩, .int .i64 0, .int .i64 0, .int .i64 0, .int .i64 0] 35)).drewN nq).setCell ⟨q, 2, none⟩ (.int .i64 ((i : Int) + 1)) = w1 at HT1 HS1 HT0 ⊢
  obtain ⟨m, hm⟩ : ∃ m, m = i + 1 := ⟨_, rfl⟩
  rw [← hm] at HS1 hg2
  obtain ⟨b2, off2, e2, hG2⟩ := HS1.out.gls.glyph hg2
  obtain ⟨rfl, rfl⟩ : b2 = b ∧ off2 = off := by simpa [eq_comm] using e2
  obtain ⟨hq1, k0, k1, k2, k3, k4, k5, k6⟩ := HS1.out.cells
  obtain ⟨hb, g0, g1, g2, g3, g4, g5⟩ := hG2
  rw [he2] at g0
  have hfr := HS1.out.free 2
  obtain ⟨hfl, t0, t1, t2, t3, t4, t5, f0, f1, f2, f3, f4, f5⟩ := HT0.out.cells
  have hi2 : (m : Int) < (gs.length : Int) := by have := (List.getElem?_eq_some_iff.1 hg2).1; omega
  have hne2 : ((m : Int) == (gs.length : Int)) = false := beq_eq_false_iff_ne.2 (by omega)
  have HM := hide hm
  clear e2 k0 k3 k4 k5 k6 g1 g2 g3 g4 g5 hm
  go_wp2_with fail
  go_quiet (fail)
  clear k1 k2 g0 t0 t1 t2 t3 t4 t5 f0 f1 f2 f3 f4 f5 hfr hfl hb hq1
  have hbq : Below w1.heap.size w1 (w1.drewN nq) := by (repeat' (first | (with_reducible exact Below.refl _ _) | (with_reducible assumption) | (with_reducible refine gdrewN ?_ _) | (with_reducible refine Below.alloc ?_ ?_ _) | (with_reducible refine Below.drew ?_) | (with_reducible refine Below.setCell ?_ ?_ _) | go_size))
  replace HT1 := hide (HT1.out.trans (.of_below hbq))
  replace HS1 := hide (HS1.out.below hbq)
  replace HT0 := hide (HT0.out.below hbq)
  clear hbq
  generalize w1.drewN nq = w2 at HT1 HS1 HT0 ⊢
  generalize hf : w.heap.size = f at *
  replace hf : w.heap.size ≤ f := by omega
  have hqf : q ≠ f := by omega
  obtain ⟨hq1, k0, k1, k2, k3, k4, k5, k6⟩ := HS1.out.cells
  have hfr := HS1.out.free 2
  clear k0 k1 k3 k4 k5 k6
  have hml : (m : Int) < 100000 := by omega
  obtain ⟨hfl, t0, t1, t2, t3, t4, t5, f0, f1, f2, f3, f4, f5⟩ := HT0.out.cells
  clear hne2 hg2 he2 hi hil KF
  go_wp2
  refine bodyPost_ret (v := _) (by simp [results, Tryd.results52, go_sem, t0, t1, t2, t3, t4, t5]; try rfl) rfl ⟨?_, ?_, ?_⟩
  · refine H.out.of_tq (Tq.six (HT1.out.set 2 _) hf _ _ _ _ _ _) ((six_other _ _ _ hqf _ _ _ _ _ _).trans ?_) (by have := HM.out; omega)
    rw [heap_setCell_same w2 q 2 _ _ _ HS1.out.blk]
    have := HM.out
    simp
    omega
  · exact Tq.six (HT1.out.set 2 _) hf _ _ _ _ _ _
  · rw [← HU.out, ← HE.out]
    rfl
set_option maxRecDepth 20000 in
set_option maxHeartbeats 1000000 in
theorem sign_bang_other (w : World) (q : Nat) (s : ByteArray) (v : Value) (gs : List Gl) (i : Nat) (e : Pl) (h : Scn w q s v gs i e) (hn : gs.length ≤ 100000) (g : Gl) (hg : gs[i]? = some g) (c : Int) (hc : gfold g.code = c) (h0 : c = 33) (gn : Gl) (hg2 : gs[i + 1]? = some gn) (he2 : gn.code ≠ 61) :
    Calls Tryd.prog 52 #[.pointer (some ⟨q, 0, none⟩)] w fun r w' => Scn w' q s v gs (i + 1) e ∧ Tq w w' q ∧ r = .returned (.tuple #[tok0, .int .i64 41]) := by
  have H := hide h
  have hi : i < gs.length := (List.getElem?_eq_some_iff.1 hg).1
  have hil : (i : Int) < 100000 := by omega
  obtain ⟨ao, cap, rfl⟩ := h.gls.isSlice
  obtain ⟨b, off, rfl, hG⟩ := h.gls.glyph hg
  obtain ⟨hq, k0, k1, k2, k3, k4, k5, k6⟩ := h.cells
  obtain ⟨hb, g0, g1, g2, g3, g4, g5⟩ := hG
  have hfr := h.free 2
  have hi' : (i : Int) < (gs.length : Int) := by omega
  have KF : ∀ w, Calls Tryd.prog 58 #[.int .i64 g.code] w fun e w' => e = .returned (.int .i64 c) ∧ w' = w := fun w => by rw [← hc]; exact gfold_any w _
  subst h0
  clear h hg hc k0 k3 k4 k5 k6 g1 g2 g3 g4 g5
  unfold tok0
  go_enter Tryd.func52, Tryd.ntmps52
  go_wp2_with fail
  go_quiet ((go_at_call 58; exact Calls.quiet_of_same (KF _)))
  go_wp2_with fail
  generalize hE : Utf8.encode 33 = T
  have HE := hide ((encode_one (c := 33) (by omega)).symm.trans hE)
  have hTs : T.size ≤ 10 := by rw [← HE.out, strOfNums_size]; simp
  have hadd : ∀ w, (Op.stringOp .add T ⟨#[61]⟩).run Tryd.prog w = .ok (.string (T ++ ⟨#[61]⟩)) w := fun w => run_string_add_sum (P := Tryd.prog) w T ⟨#[61]⟩ (by show T.size + 1 ≤ _; omega)
  generalize hU : T ++ (⟨#[61]⟩ : ByteArray) = U at hadd
  have HU := hide hU
  clear hU hTs
  clear hE
  have hbq : Below w.heap.size w ((w.alloc (.cells #[.int .i64 0, .string ⟨#[]⟩, .int .i64 0, .int .i64 0, .int .i64 0, .int .i64 0] 35)).drewN nq) := by (repeat' (first | (with_reducible exact Below.refl _ _) | (with_reducible assumption) | (with_reducible refine gdrewN ?_ _) | (with_reducible refine Below.alloc ?_ ?_ _) | (with_reducible refine Below.drew ?_) | (with_reducible refine Below.setCell ?_ ?_ _) | go_size))
  have HT1 := hide ((Tq.of_below (q := q) hbq).set 2 (.int .i64 ((i : Int) + 1)))
  have HS1 := hide ((H.out.below hbq).set (by omega))
  have HT0 : Hid (Tk0B (((w.alloc (.cells #[.int .i64 0, .string ⟨#[]⟩, .int .i64 0, .int .i64 0, .int .i64 0, .int .i64 0] 35)).drewN nq).setCell ⟨q, 2, none⟩ (.int .i64 ((i : Int) + 1))) w.heap.size) := ((heap_setCell_other _ ⟨q, 2, none⟩ w.heap.size _ (by show w.heap.size ≠ q; omega)).trans (heap_alloc_new w _))
  clear hbq k1 k2 hfr g0 hb
  generalize ((w.alloc (.cells #[.int .i64 0, .string ⟨#[]⟩, .int .i64 0, .int .i64 0, .int .i64 0, .int .i64 0] 35)).drewN nq).setCell ⟨q, 2, none⟩ (.int .i64 ((i : Int) + 1)) = w1 at HT1 HS1 HT0 ⊢
  obtain ⟨m, hm⟩ : ∃ m, m = i + 1 := ⟨_, rfl⟩
  rw [← hm] at HS1 hg2
  obtain ⟨b2, off2, e2, hG2⟩ := HS1.out.gls.glyph hg2
  obtain ⟨rfl, rfl⟩ : b2 = b ∧ off2 = off := by simpa [eq_comm] using e2
  obtain ⟨hq1, k0, k1, k2, k3, k4, k5, k6⟩ := HS1.out.cells
  obtain ⟨hb, g0, g1, g2, g3, g4, g5⟩ := hG2
  have hne61 : ((gn.code : Int) != 61) = true := by simp; omega
  have hfr := HS1.out.free 2
  obtain ⟨hfl, t0, t1, t2, t3, t4, t5, f0, f1, f2, f3, f4, f5⟩ := HT0.out.cells
  have hi2 : (m : Int) < (gs.length : Int) := by have := (List.getElem?_eq_some_iff.1 hg2).1; omega
  have hne2 : ((m : Int) == (gs.length : Int)) = false := beq_eq_false_iff_ne.2 (by omega)
  have HM := hide hm
  clear e2 k0 k3 k4 k5 k6 g1 g2 g3 g4 g5 hm
  go_wp2_with fail
  go_quiet (fail)
  clear k1 k2 g0 t0 t1 t2 t3 t4 t5 f0 f1 f2 f3 f4 f5 hfr hfl hb hq1
  have hbq : Below w1.heap.size w1 (w1.drewN nq) := by (repeat' (first | (with_reducible exact Below.refl _ _) | (with_reducible assumption) | (with_reducible refine gdrewN ?_ _) | (with_reducible refine Below.alloc ?_ ?_ _) | (with_reducible refine Below.drew ?_) | (with_reducible refine Below.setCell ?_ ?_ _) | go_size))
  replace HT1 := hide (HT1.out.trans (.of_below hbq))
  replace HS1 := hide (HS1.out.below hbq)
  replace HT0 := hide (HT0.out.below hbq)
  clear hbq
  generalize w1.drewN nq = w2 at HT1 HS1 HT0 ⊢
  generalize hf : w.heap.size = f at *
  replace hf : w.heap.size ≤ f := by omega
  have hqf : q ≠ f := by omega
  obtain ⟨hq1, k0, k1, k2, k3, k4, k5, k6⟩ := HS1.out.cells
  have hfr := HS1.out.free 2
  clear k0 k1 k3 k4 k5 k6
  have hml : (m : Int) < 100000 := by omega
  obtain ⟨hfl, t0, t1, t2, t3, t4, t5, f0, f1, f2, f3, f4, f5⟩ := HT0.out.cells
  clear hne2 hg2 he2 hne61 hi hil KF
  go_wp2
  refine bodyPost_ret (v := _) (by simp [results, Tryd.results52, go_sem, t0, t1, t2, t3, t4, t5]; try rfl) rfl ⟨?_, ?_, ?_⟩
  · refine H.out.of_tq (Tq.six HT1.out hf _ _ _ _ _ _) ((six_other _ _ _ hqf _ _ _ _ _ _).trans ?_) (by have := HM.out; omega)
    rw [HS1.out.blk, HM.out]
  · exact Tq.six HT1.out hf _ _ _ _ _ _
  · rfl
set_option maxRecDepth 20000 in
set_option maxHeartbeats 1000000 in
theorem sign_bang_none (w : World) (q : Nat) (s : ByteArray) (v : Value) (gs : List Gl) (i : Nat) (e : Pl) (h : Scn w q s v gs i e) (hn : gs.length ≤ 100000) (g : Gl) (hg : gs[i]? = some g) (c : Int) (hc : gfold g.code = c) (h0 : c = 33) (hg2 : gs.length ≤ i + 1) :
    Calls Tryd.prog 52 #[.pointer (some ⟨q, 0, none⟩)] w fun r w' => Scn w' q s v gs (i + 1) e ∧ Tq w w' q ∧ r = .returned (.tuple #[tok0, .int .i64 41]) := by
  have H := hide h
  have hi : i < gs.length := (List.getElem?_eq_some_iff.1 hg).1
  have hil : (i : Int) < 100000 := by omega
  obtain ⟨ao, cap, rfl⟩ := h.gls.isSlice
  obtain ⟨b, off, rfl, hG⟩ := h.gls.glyph hg
  obtain ⟨hq, k0, k1, k2, k3, k4, k5, k6⟩ := h.cells
  obtain ⟨hb, g0, g1, g2, g3, g4, g5⟩ := hG
  have hfr := h.free 2
  have hi' : (i : Int) < (gs.length : Int) := by omega
  have KF : ∀ w, Calls Tryd.prog 58 #[.int .i64 g.code] w fun e w' => e = .returned (.int .i64 c) ∧ w' = w := fun w => by rw [← hc]; exact gfold_any w _
  subst h0
  clear h hg hc k0 k3 k4 k5 k6 g1 g2 g3 g4 g5
  unfold tok0
  go_enter Tryd.func52, Tryd.ntmps52
  go_wp2_with fail
  go_quiet ((go_at_call 58; exact Calls.quiet_of_same (KF _)))
  go_wp2_with fail
  generalize hE : Utf8.encode 33 = T
  have HE := hide ((encode_one (c := 33) (by omega)).symm.trans hE)
  have hTs : T.size ≤ 10 := by rw [← HE.out, strOfNums_size]; simp
  have hadd : ∀ w, (Op.stringOp .add T ⟨#[61]⟩).run Tryd.prog w = .ok (.string (T ++ ⟨#[61]⟩)) w := fun w => run_string_add_sum (P := Tryd.prog) w T ⟨#[61]⟩ (by show T.size + 1 ≤ _; omega)
  generalize hU : T ++ (⟨#[61]⟩ : ByteArray) = U at hadd
  have HU := hide hU
  clear hU hTs
  clear hE
  have hbq : Below w.heap.size w ((w.alloc (.cells #[.int .i64 0, .string ⟨#[]⟩, .int .i64 0, .int .i64 0, .int .i64 0, .int .i64 0] 35)).drewN nq) := by (repeat' (first | (with_reducible exact Below.refl _ _) | (with_reducible assumption) | (with_reducible refine gdrewN ?_ _) | (with_reducible refine Below.alloc ?_ ?_ _) | (with_reducible refine Below.drew ?_) | (with_reducible refine Below.setCell ?_ ?_ _) | go_size))
  have HT1 := hide ((Tq.of_below (q := q) hbq).set 2 (.int .i64 ((i : Int) + 1)))
  have HS1 := hide ((H.out.below hbq).set (by omega))
  have HT0 : Hid (Tk0B (((w.alloc (.cells #[.int .i64 0, .string ⟨#[]⟩, .int .i64 0, .int .i64 0, .int .i64 0, .int .i64 0] 35)).drewN nq).setCell ⟨q, 2, none⟩ (.int .i64 ((i : Int) + 1))) w.heap.size) := ((heap_setCell_other _ ⟨q, 2, none⟩ w.heap.size _ (by show w.heap.size ≠ q; omega)).trans (heap_alloc_new w _))
  clear hbq k1 k2 hfr g0 hb
  generalize ((w.alloc (.cells #[.int .i64 0, .string ⟨#[]⟩, .int .i64 0, .int .i64 0, .int .i64 0, .int .i64 0] 35)).drewN nq).setCell ⟨q, 2, none⟩ (.int .i64 ((i : Int) + 1)) = w1 at HT1 HS1 HT0 ⊢
  obtain ⟨m, hm⟩ : ∃ m, m = i + 1 := ⟨_, rfl⟩
  rw [← hm] at HS1
  obtain ⟨hq1, k0, k1, k2, k3, k4, k5, k6⟩ := HS1.out.cells
  obtain ⟨hfl, t0, t1, t2, t3, t4, t5, f0, f1, f2, f3, f4, f5⟩ := HT0.out.cells
  have hne2 : ((m : Int) == (gs.length : Int)) = true := by simp; omega
  have HM := hide hm
  clear k0 k3 k4 k5 k6 hm
  go_wp2_with fail
  go_quiet (fail)
  clear k1 k2 t0 t1 t2 t3 t4 t5 f0 f1 f2 f3 f4 f5 hfl hq1
  have hbq : Below w1.heap.size w1 (w1.drewN nq) := by (repeat' (first | (with_reducible exact Below.refl _ _) | (with_reducible assumption) | (with_reducible refine gdrewN ?_ _) | (with_reducible refine Below.alloc ?_ ?_ _) | (with_reducible refine Below.drew ?_) | (with_reducible refine Below.setCell ?_ ?_ _) | go_size))
  replace HT1 := hide (HT1.out.trans (.of_below hbq))
  replace HS1 := hide (HS1.out.below hbq)
  replace HT0 := hide (HT0.out.below hbq)
  clear hbq
  generalize w1.drewN nq = w2 at HT1 HS1 HT0 ⊢
  generalize hf : w.heap.size = f at *
  replace hf : w.heap.size ≤ f := by omega
  have hqf : q ≠ f := by omega
  obtain ⟨hq1, k0, k1, k2, k3, k4, k5, k6⟩ := HS1.out.cells
  have hfr := HS1.out.free 2
  clear k0 k1 k3 k4 k5 k6
  have hml : (m : Int) < 100001 := by have := HM.out; omega
  obtain ⟨hfl, t0, t1, t2, t3, t4, t5, f0, f1, f2, f3, f4, f5⟩ := HT0.out.cells
  clear hne2 hi hil KF
  go_wp2
  refine bodyPost_ret (v := _) (by simp [results, Tryd.results52, go_sem, t0, t1, t2, t3, t4, t5]; try rfl) rfl ⟨?_, ?_, ?_⟩
  · refine H.out.of_tq (Tq.six HT1.out hf _ _ _ _ _ _) ((six_other _ _ _ hqf _ _ _ _ _ _).trans ?_) (by have := HM.out; omega)
    rw [HS1.out.blk, HM.out]
  · exact Tq.six HT1.out hf _ _ _ _ _ _
  · rfl
end Lm
end Go.Proofs.YtgfglefgpgckiaaDoor

namespace Go.Proofs.YtgfglefgpgckiaaDoor
namespace Lm
open Go Go.RowKit
inductive TO where
  | bad (k : Int) : TO
  | ok (kind : Int) (text : ByteArray) (rest : List Gl) : TO
def signS (c : Int) (r : List Gl) : TO :=
  if c = 8788 then .ok 3 (strOfNums [58, 61]) r
  else if c = 8800 then .ok 3 (strOfNums [33, 61]) r
  else if c = 58 ∨ c = 33 then (match r with | [] => .bad 41 | h :: t => if h.code = 61 then .ok 3 (strOfNums [c, 61]) t else .bad 41)
  else .ok 3 (strOfNums [c]) r
def TokR (s : ByteArray) (e : Pl) (g : Gl) (r : List Gl) (o : TO) : Prop :=
  if gcls g.code = 2 then
    o = if 16 < (g :: r).length - ((g :: r).dropWhile (inC [2, 3, 4])).length then .bad 42 else .ok 1 (s.extract g.pl.b (plf ((g :: r).dropWhile (inC [2, 3, 4])) e).b) ((g :: r).dropWhile (inC [2, 3, 4]))
  else if gcls g.code = 3 then
    ∃ n ds, IsLen (dval (bytesOf (s.extract g.pl.b (plf ((g :: r).dropWhile (inC [3])) e).b))) n ∧ IsDec ds (dval (bytesOf (s.extract g.pl.b (plf ((g :: r).dropWhile (inC [3])) e).b))) ∧ o = if 32 < n then .bad 2 else .ok 2 (strOfNums ds) ((g :: r).dropWhile (inC [3]))
  else if gcls g.code = 5 then o = signS (gfold g.code) r
  else o = .bad 41
theorem tokR_name {s : ByteArray} {e : Pl} {g : Gl} {r : List Gl} (h : gcls g.code = 2) : TokR s e g r (if 16 < (g :: r).length - ((g :: r).dropWhile (inC [2, 3, 4])).length then .bad 42 else .ok 1 (s.extract g.pl.b (plf ((g :: r).dropWhile (inC [2, 3, 4])) e).b) ((g :: r).dropWhile (inC [2, 3, 4]))) := by
  unfold TokR
  rw [if_pos h]
theorem tokR_num {s : ByteArray} {e : Pl} {g : Gl} {r : List Gl} {n : Nat} {ds : List Int} (h : gcls g.code = 3) (h1 : IsLen (dval (bytesOf (s.extract g.pl.b (plf ((g :: r).dropWhile (inC [3])) e).b))) n) (h2 : IsDec ds (dval (bytesOf (s.extract g.pl.b (plf ((g :: r).dropWhile (inC [3])) e).b)))) : TokR s e g r (if 32 < n then .bad 2 else .ok 2 (strOfNums ds) ((g :: r).dropWhile (inC [3]))) := by
  unfold TokR
  rw [if_neg (by omega), if_pos h]
  exact ⟨n, ds, h1, h2, rfl⟩
theorem tokR_sign {s : ByteArray} {e : Pl} {g : Gl} {r : List Gl} (h : gcls g.code = 5) : TokR s e g r (signS (gfold g.code) r) := by
  unfold TokR
  rw [if_neg (by omega), if_neg (by omega), if_pos h]
theorem tokR_other {s : ByteArray} {e : Pl} {g : Gl} {r : List Gl} (h2 : gcls g.code ≠ 2) (h3 : gcls g.code ≠ 3) (h5 : gcls g.code ≠ 5) : TokR s e g r (.bad 41) := by
  unfold TokR
  rw [if_neg h2, if_neg h3, if_neg h5]
theorem TokR.one {s : ByteArray} {e : Pl} {g : Gl} {r : List Gl} {o o' : TO} (h : TokR s e g r o) (h' : TokR s e g r o') : o = o' := by
  unfold TokR at h h'
  by_cases c2 : gcls g.code = 2
  · rw [if_pos c2] at h h'
    rw [h, h']
  · rw [if_neg c2] at h h'
    by_cases c3 : gcls g.code = 3
    · rw [if_pos c3] at h h'
      obtain ⟨n, ds, h1, h2, h3⟩ := h
      obtain ⟨n', ds', h1', h2', h3'⟩ := h'
      rw [h3, h3', isLen_one h1 h1', isDec_one h2 h2']
    · rw [if_neg c3] at h h'
      by_cases c5 : gcls g.code = 5
      · rw [if_pos c5] at h h'
        rw [h, h']
      · rw [if_neg c5] at h h'
        rw [h, h']
structure Tk where
  kind : Int
  text : ByteArray
  pl : Pl
inductive SO where
  | bad (k : Int) (p : Pl) : SO
  | ok (l : List Tk) : SO
def SO.pre (t : Tk) : SO → SO
  | .bad k p => .bad k p
  | .ok l => .ok (t :: l)
def SO.pres (ts : List Tk) : SO → SO
  | .bad k p => .bad k p
  | .ok l => .ok (ts ++ l)
inductive ScanR (s : ByteArray) (e : Pl) : List Gl → SO → Prop
  | done (r : List Gl) (h : skp false r = []) (hb : s.size ≤ e.b) : ScanR s e r (.ok [⟨0, ⟨#[]⟩, e⟩])
  | rune (r : List Gl) (h : skp false r = []) (hb : e.b < s.size) : ScanR s e r (.bad 40 e)
  | bad (r : List Gl) (g : Gl) (t : List Gl) (k : Int) (h : skp false r = g :: t) (ht : TokR s e g t (.bad k)) : ScanR s e r (.bad k g.pl)
  | tok (r : List Gl) (g : Gl) (t : List Gl) (kind : Int) (text : ByteArray) (rest : List Gl) (o : SO) (h : skp false r = g :: t) (ht : TokR s e g t (.ok kind text rest)) (hr : ScanR s e rest o) : ScanR s e r (o.pre ⟨kind, text, g.pl⟩)
theorem ScanR.one {s : ByteArray} {e : Pl} {r : List Gl} {o o' : SO} (h : ScanR s e r o) (h' : ScanR s e r o') : o = o' := by
  induction h generalizing o' with
  | done r h hb =>
    cases h' with
    | done _ _ _ => rfl
    | rune _ _ hb' => omega
    | bad _ g t k h2 _ => rw [h] at h2; cases h2
    | tok _ g t _ _ _ _ h2 _ _ => rw [h] at h2; cases h2
  | rune r h hb =>
    cases h' with
    | done _ _ hb' => omega
    | rune _ _ _ => rfl
    | bad _ g t k h2 _ => rw [h] at h2; cases h2
    | tok _ g t _ _ _ _ h2 _ _ => rw [h] at h2; cases h2
  | bad r g t k h ht =>
    cases h' with
    | done _ h2 _ => rw [h] at h2; cases h2
    | rune _ h2 _ => rw [h] at h2; cases h2
    | bad _ g' t' k' h2 ht' =>
      rw [h] at h2
      obtain ⟨rfl, rfl⟩ := List.cons.inj h2
      have := ht.one ht'
      injection this with e1
      rw [e1]
    | tok _ g' t' _ _ _ _ h2 ht' _ =>
      rw [h] at h2
      obtain ⟨rfl, rfl⟩ := List.cons.inj h2
      have := ht.one ht'
      cases this
  | tok r g t kind text rest o h ht hr ih =>
    cases h' with
    | done _ h2 _ => rw [h] at h2; cases h2
    | rune _ h2 _ => rw [h] at h2; cases h2
    | bad _ g' t' k' h2 ht' =>
      rw [h] at h2
      obtain ⟨rfl, rfl⟩ := List.cons.inj h2
      have := ht.one ht'
      cases this
    | tok _ g' t' _ _ _ _ h2 ht' hr' =>
      rw [h] at h2
      obtain ⟨rfl, rfl⟩ := List.cons.inj h2
      have := ht.one ht'
      injection this with e1 e2 e3
      subst e1 e2 e3
      rw [ih hr']
end Lm
end Go.Proofs.YtgfglefgpgckiaaDoor

namespace Go.Proofs.YtgfglefgpgckiaaDoor
namespace Lm
open Go Go.RowKit
def TokO (w w' : World) (q : Nat) (s : ByteArray) (v : Value) (gs : List Gl) (i : Nat) (e : Pl) (r : Ending) : TO → Prop
  | .bad k => k ≠ 0 ∧ r = .returned (.tuple #[tok0, .int .i64 k]) ∧ Tq w w' q
  | .ok kind text rest => r = .returned (.tuple #[.agg #[.int .i64 kind, .string text, .int .i64 0, .int .i64 0, .int .i64 0, .int .i64 0], .int .i64 0]) ∧ Tq w w' q ∧ ∃ j, i < j ∧ gs.drop j = rest ∧ Scn w' q s v gs j e
structure TokV (w w' : World) (q : Nat) (s : ByteArray) (v : Value) (gs : List Gl) (i : Nat) (e : Pl) (kd : Int) (tx : ByteArray) (k : Int) (o : TO) : Prop where
  out : TokO w w' q s v gs i e (.returned (.tuple #[.agg #[.int .i64 kd, .string tx, .int .i64 0, .int .i64 0, .int .i64 0, .int .i64 0], .int .i64 k])) o
theorem TokO.v {w w' : World} {q : Nat} {s : ByteArray} {v : Value} {gs : List Gl} {i : Nat} {e : Pl} {r : Ending} {o : TO} (h : TokO w w' q s v gs i e r o) : ∃ (kd : Int) (tx : ByteArray) (k : Int), r = .returned (.tuple #[.agg #[.int .i64 kd, .string tx, .int .i64 0, .int .i64 0, .int .i64 0, .int .i64 0], .int .i64 k]) ∧ TokV w w' q s v gs i e kd tx k o := by
  cases o with
  | bad k => exact ⟨_, _, _, h.2.1, ⟨h.1, rfl, h.2.2⟩⟩
  | ok kind text rest => exact ⟨_, _, _, h.1, ⟨rfl, h.2⟩⟩
theorem TokV.six {w w1 w' : World} {q f : Nat} {s : ByteArray} {v : Value} {gs : List Gl} {i : Nat} {e : Pl} {kd : Int} {tx : ByteArray} {k : Int} {o : TO} (h : TokV w1 w' q s v gs i e kd tx k o) (h0 : Scn w q s v gs i e) (hb : Below w.heap.size w w1) (hf : w.heap.size ≤ f) (hqf : q ≠ f) (u0 u1 u2 u3 u4 u5 : Value) :
    TokO w ((((((w'.setCell ⟨f, 0, none⟩ u0).setCell ⟨f, 1, none⟩ u1).setCell ⟨f, 2, none⟩ u2).setCell ⟨f, 3, none⟩ u3).setCell ⟨f, 4, none⟩ u4).setCell ⟨f, 5, none⟩ u5) q s v gs i e (.returned (.tuple #[.agg #[.int .i64 kd, .string tx, .int .i64 0, .int .i64 0, .int .i64 0, .int .i64 0], .int .i64 k])) o := by
  obtain ⟨h⟩ := h
  cases o with
  | bad c => exact ⟨h.1, h.2.1, ((Tq.of_below hb).trans h.2.2).six hf _ _ _ _ _ _⟩
  | ok kind text rest =>
    obtain ⟨h1, h2, j, h3, h4, h5⟩ := h
    exact ⟨h1, ((Tq.of_below hb).trans h2).six hf _ _ _ _ _ _, j, h3, h4, h0.of_tq (((Tq.of_below hb).trans h2).six hf _ _ _ _ _ _) ((six_other _ _ _ hqf _ _ _ _ _ _).trans h5.blk) h5.le⟩
theorem dropWhile_len {α : Type} (p : α → Bool) (l : List α) : (l.dropWhile p).length ≤ l.length := by
  induction l with
  | nil => simp
  | cons a l ih =>
    by_cases h : p a = true
    · rw [List.dropWhile_cons_of_pos h]; simp; omega
    · rw [List.dropWhile_cons_of_neg h]; simp
theorem dropWhile_lt {α : Type} {p : α → Bool} {a : α} {l : List α} (h : p a = true) : ((a :: l).dropWhile p).length < (a :: l).length := by
  rw [List.dropWhile_cons_of_pos h]
  have := dropWhile_len p l
  simp
  omega
theorem drop_lt {gs : List Gl} {i j : Nat} (hi : i < gs.length) (h : (gs.drop j).length < (gs.drop i).length) : i < j := by
  simp at h
  omega
theorem name_t (w : World) (q : Nat) (s : ByteArray) (v : Value) (gs : List Gl) (i : Nat) (e : Pl) (h : Scn w q s v gs i e) (hn : gs.length ≤ 100000) (hQ : Snd s pl0 gs e) (hs : s.size ≤ 4096) (g : Gl) (hd : gs.drop i = g :: gs.drop (i + 1)) (hc : gcls g.code = 2) :
    Calls Tryd.prog 50 #[.pointer (some ⟨q, 0, none⟩)] w fun r w' => ∃ o, TokR s e g (gs.drop (i + 1)) o ∧ TokO w w' q s v gs i e r o := by
  refine (name_any w q s v gs i e h hn hQ (by omega)).mono ?_
  rintro r w' ⟨j, hij, hdj, hS, hT, hr⟩
  have hlt : i < gs.length := by
    apply Classical.byContradiction
    intro hh
    rw [List.drop_eq_nil_of_le (by omega)] at hd
    cases hd
  have hjl := hS.le
  have hl : (g :: gs.drop (i + 1)).length - ((g :: gs.drop (i + 1)).dropWhile (inC [2, 3, 4])).length = j - i := by
    rw [← hd, ← hdj]
    simp
    omega
  have hj : i < j := by
    refine drop_lt hlt ?_
    rw [hdj, hd]
    exact dropWhile_lt (by simp [inC, hc])
  refine ⟨_, tokR_name hc, ?_⟩
  rw [hl]
  rw [hd] at hdj
  rcases hr with ⟨h1, rfl⟩ | ⟨h1, rfl⟩
  · rw [if_pos h1]; exact ⟨by omega, rfl, hT⟩
  · rw [if_neg (by omega), hd, hdj]
    exact ⟨rfl, hT, j, hj, hdj, hS⟩
theorem number_t (w : World) (q : Nat) (s : ByteArray) (v : Value) (gs : List Gl) (i : Nat) (e : Pl) (h : Scn w q s v gs i e) (hn : gs.length ≤ 100000) (hQ : Snd s pl0 gs e) (hs : s.size ≤ 4096) (g : Gl) (hd : gs.drop i = g :: gs.drop (i + 1)) (hc : gcls g.code = 3) :
    Calls Tryd.prog 51 #[.pointer (some ⟨q, 0, none⟩)] w fun r w' => ∃ o, TokR s e g (gs.drop (i + 1)) o ∧ TokO w w' q s v gs i e r o := by
  have hlt : i < gs.length := by
    apply Classical.byContradiction
    intro hh
    rw [List.drop_eq_nil_of_le (by omega)] at hd
    cases hd
  have hin : inC [3] g = true := by simp [inC, hc]
  refine (number_any w q s v gs i e h hn hQ hs ?_).mono ?_
  · have hD := hQ.drop pl0_ok (Nat.zero_le _) i h.le
    rw [hd, List.dropWhile_cons_of_pos hin]
    obtain ⟨m, hm, hml⟩ : ∃ m, (gs.drop (i + 1)).dropWhile (inC [3]) = (gs.drop i).drop m ∧ 1 ≤ m ∧ m ≤ (gs.drop i).length := by
      refine ⟨(gs.drop i).length - ((gs.drop (i + 1)).dropWhile (inC [3])).length, ?_, ?_, ?_⟩
      · have key : ∀ (l : List Gl), l.dropWhile (inC [3]) = l.drop (l.length - (l.dropWhile (inC [3])).length) := by
          intro l
          induction l with
          | nil => rfl
          | cons a l ih =>
            by_cases ha : inC [3] a = true
            · rw [List.dropWhile_cons_of_pos ha]
              have := dropWhile_len (inC [3]) l
              rw [show (a :: l).length - (l.dropWhile (inC [3])).length = (l.length - (l.dropWhile (inC [3])).length) + 1 from by simp; omega, List.drop_succ_cons]
              exact ih
            · rw [List.dropWhile_cons_of_neg ha]; simp
        have := key (gs.drop i)
        rw [hd, List.dropWhile_cons_of_pos hin] at this
        rw [hd]
        exact this
      · have := dropWhile_len (inC [3]) (gs.drop (i + 1)); simp at this ⊢; omega
      · omega
    have h2 := hD.1.drop hD.2.1 hD.2.2.2.1 m hml.2
    rw [hm]
    rw [hd] at h2 ⊢
    have h3 := h2.2.2.1
    omega
  rintro r w' ⟨j, hij, hdj, hS, hT, n, ds, hn1, hds, hr⟩
  have hj : i < j := by
    refine drop_lt hlt ?_
    rw [hdj, hd]
    exact dropWhile_lt hin
  rw [hd] at hdj hn1 hds
  rw [hdj] at hn1 hds
  refine ⟨_, tokR_num hc hn1 hds, ?_⟩
  rcases hr with ⟨h1, rfl⟩ | ⟨h1, rfl⟩
  · rw [if_pos h1]; exact ⟨by omega, rfl, hT⟩
  · rw [if_neg (by omega)]
    exact ⟨rfl, hT, j, hj, hdj, hS⟩
theorem fold_of {g : Gl} (h : gcls g.code = 5) : gsign (gfold g.code) := by
  apply Classical.byContradiction
  intro hn
  unfold gcls at h
  repeat' split at h
  all_goals first | contradiction | omega
theorem sign_t (w : World) (q : Nat) (s : ByteArray) (v : Value) (gs : List Gl) (i : Nat) (e : Pl) (h : Scn w q s v gs i e) (hn : gs.length ≤ 100000) (g : Gl) (hg : gs[i]? = some g) (hc : gcls g.code = 5) :
    Calls Tryd.prog 52 #[.pointer (some ⟨q, 0, none⟩)] w fun r w' => ∃ o, TokR s e g (gs.drop (i + 1)) o ∧ TokO w w' q s v gs i e r o := by
  have hs := fold_of hc
  suffices H : Calls Tryd.prog 52 #[.pointer (some ⟨q, 0, none⟩)] w fun r w' => TokO w w' q s v gs i e r (signS (gfold g.code) (gs.drop (i + 1))) from H.mono (fun r w' h => ⟨_, tokR_sign hc, h⟩)
  generalize hcc : gfold g.code = c at hs ⊢
  unfold signS
  by_cases c1 : c = 8788
  · rw [if_pos c1]
    refine (sign_becomes w q s v gs i e h hn g hg c hcc c1).mono ?_
    rintro r w' ⟨hS, hT, rfl⟩
    exact ⟨rfl, hT, i + 1, by omega, rfl, hS⟩
  · rw [if_neg c1]
    by_cases c2 : c = 8800
    · rw [if_pos c2]
      refine (sign_unlike w q s v gs i e h hn g hg c hcc c2).mono ?_
      rintro r w' ⟨hS, hT, rfl⟩
      exact ⟨rfl, hT, i + 1, by omega, rfl, hS⟩
    · rw [if_neg c2]
      by_cases c3 : c = 58 ∨ c = 33
      · rw [if_pos c3]
        by_cases hl : i + 1 < gs.length
        · rw [List.drop_eq_getElem_cons hl]
          simp only
          have hg2 : gs[i + 1]? = some (gs[i + 1]'hl) := List.getElem?_eq_getElem hl
          by_cases h61 : (gs[i + 1]'hl).code = 61
          · rw [if_pos h61]
            rcases c3 with c3 | c3
            · rw [c3] at hcc ⊢
              refine (sign_colon w q s v gs i e h hn g hg 58 hcc rfl _ hg2 h61).mono ?_
              rintro r w' ⟨hS, hT, rfl⟩
              exact ⟨rfl, hT, i + 2, by omega, rfl, hS⟩
            · rw [c3] at hcc ⊢
              refine (sign_bang w q s v gs i e h hn g hg 33 hcc rfl _ hg2 h61).mono ?_
              rintro r w' ⟨hS, hT, rfl⟩
              exact ⟨rfl, hT, i + 2, by omega, rfl, hS⟩
          · rw [if_neg h61]
            rcases c3 with c3 | c3
            · refine (sign_colon_other w q s v gs i e h hn g hg c hcc c3 _ hg2 h61).mono ?_
              rintro r w' ⟨hS, hT, rfl⟩
              exact ⟨by omega, rfl, hT⟩
            · refine (sign_bang_other w q s v gs i e h hn g hg c hcc c3 _ hg2 h61).mono ?_
              rintro r w' ⟨hS, hT, rfl⟩
              exact ⟨by omega, rfl, hT⟩
        · rw [List.drop_eq_nil_of_le (by omega)]
          simp only
          rcases c3 with c3 | c3
          · refine (sign_colon_none w q s v gs i e h hn g hg c hcc c3 (by omega)).mono ?_
            rintro r w' ⟨hS, hT, rfl⟩
            exact ⟨by omega, rfl, hT⟩
          · refine (sign_bang_none w q s v gs i e h hn g hg c hcc c3 (by omega)).mono ?_
            rintro r w' ⟨hS, hT, rfl⟩
            exact ⟨by omega, rfl, hT⟩
      · rw [if_neg c3]
        refine (sign_one w q s v gs i e h hn g hg c hcc ?_ (by omega) (by omega)).mono ?_
        · unfold gsign at hs; omega
        rintro r w' ⟨hS, hT, rfl⟩
        exact ⟨rfl, hT, i + 1, by omega, rfl, hS⟩
end Lm
end Go.Proofs.YtgfglefgpgckiaaDoor

namespace Go.Proofs.YtgfglefgpgckiaaDoor
namespace Lm
open Go Go.RowKit
theorem TokV.tq {w w' : World} {q : Nat} {s : ByteArray} {v : Value} {gs : List Gl} {i : Nat} {e : Pl} {kd : Int} {tx : ByteArray} {k : Int} {o : TO} (h : TokV w w' q s v gs i e kd tx k o) : Tq w w' q := by
  obtain ⟨h⟩ := h
  cases o with
  | bad c => exact h.2.2
  | ok kind text rest => exact h.2.1
set_option maxRecDepth 20000 in
set_option maxHeartbeats 1000000 in
theorem token_any (w : World) (q : Nat) (s : ByteArray) (v : Value) (gs : List Gl) (i : Nat) (e : Pl) (h : Scn w q s v gs i e) (hn : gs.length ≤ 100000) (hQ : Snd s pl0 gs e) (hs : s.size ≤ 4096) (g : Gl) (hg : gs[i]? = some g) :
    Calls Tryd.prog 30 #[.pointer (some ⟨q, 0, none⟩)] w fun r w' => ∃ o, TokR s e g (gs.drop (i + 1)) o ∧ TokO w w' q s v gs i e r o := by
  have H := hide h
  have hi : i < gs.length := (List.getElem?_eq_some_iff.1 hg).1
  have hd : gs.drop i = g :: gs.drop (i + 1) := by
    rw [List.drop_eq_getElem_cons hi]
    congr 1
    rw [List.getElem?_eq_getElem hi] at hg
    exact Option.some.inj hg
  have HD := hide hd
  obtain ⟨ao, cap, rfl⟩ := h.gls.isSlice
  obtain ⟨b, off, rfl, hG⟩ := h.gls.glyph hg
  obtain ⟨hq, k0, k1, k2, k3, k4, k5, k6⟩ := h.cells
  obtain ⟨hb, g0, g1, g2, g3, g4, g5⟩ := hG
  have hi' : (i : Int) < (gs.length : Int) := by omega
  have HGI := hide hg
  clear h k0 k3 k4 k5 k6 g0 g2 g3 g4 g5 hd hg
  go_enter Tryd.func30, Tryd.ntmps30
  go_wp2_with fail
  go_quiet (fail)
  have hbq : Below w.heap.size w ((w.alloc (.cells #[.int .i64 0, .string ⟨#[]⟩, .int .i64 0, .int .i64 0, .int .i64 0, .int .i64 0] 35)).drewN nq) := by (repeat' (first | (with_reducible exact Below.refl _ _) | (with_reducible assumption) | (with_reducible refine gdrewN ?_ _) | (with_reducible refine Below.alloc ?_ ?_ _) | (with_reducible refine Below.drew ?_) | (with_reducible refine Below.setCell ?_ ?_ _) | go_size))
  have HB := hide hbq
  have HS1 := hide (H.out.below hbq)
  have HT1 : Hid (Tk0B ((w.alloc (.cells #[.int .i64 0, .string ⟨#[]⟩, .int .i64 0, .int .i64 0, .int .i64 0, .int .i64 0] 35)).drewN nq) w.heap.size) := heap_alloc_new w _
  clear hbq k1 k2 g1 hb hi'
  generalize (w.alloc (.cells #[.int .i64 0, .string ⟨#[]⟩, .int .i64 0, .int .i64 0, .int .i64 0, .int .i64 0] 35)).drewN nq = w1 at HB HS1 HT1 ⊢
  generalize hf : w.heap.size = f at *
  have hqf : q ≠ f := by omega
  have hfq : f ≠ q := by omega
  replace HB : Hid (Below w.heap.size w w1) := by rw [hf]; exact HB
  replace hf : w.heap.size ≤ f := by omega
  clear hq
  by_cases hc2 : gcls g.code = 2
  · have n2 : (gcls g.code == 2) = true := by rw [hc2]; rfl
    go_wp2_with fail
    refine (name_t _ q s _ gs i e HS1.out hn hQ hs g HD.out hc2).mono ?_
    rintro r w2 ⟨o, ho, hO⟩
    obtain ⟨kd, tx, k, rfl, hV⟩ := hO.v
    have HV := hide hV
    have HR := hide ho
    have HT0 := hide (HT1.out.tq (hV.tq) hfq)
    clear hO hV ho
    obtain ⟨hfl, t0, t1, t2, t3, t4, t5, f0, f1, f2, f3, f4, f5⟩ := HT0.out.cells
    go_wp2
    refine bodyPost_ret (v := _) (by simp [results, Tryd.results30, go_sem, t0, t1, t2, t3, t4, t5]; try rfl) rfl ⟨o, HR.out, ?_⟩
    exact HV.out.six H.out HB.out hf hqf _ _ _ _ _ _
  by_cases hc3 : gcls g.code = 3
  · have n2 : (gcls g.code == 2) = false := beq_eq_false_iff_ne.2 hc2
    have n3 : (gcls g.code == 3) = true := by rw [hc3]; rfl
    go_wp2_with fail
    refine (number_t _ q s _ gs i e HS1.out hn hQ hs g HD.out hc3).mono ?_
    rintro r w2 ⟨o, ho, hO⟩
    obtain ⟨kd, tx, k, rfl, hV⟩ := hO.v
    have HV := hide hV
    have HR := hide ho
    have HT0 := hide (HT1.out.tq (hV.tq) hfq)
    clear hO hV ho
    obtain ⟨hfl, t0, t1, t2, t3, t4, t5, f0, f1, f2, f3, f4, f5⟩ := HT0.out.cells
    go_wp2
    refine bodyPost_ret (v := _) (by simp [results, Tryd.results30, go_sem, t0, t1, t2, t3, t4, t5]; try rfl) rfl ⟨o, HR.out, ?_⟩
    exact HV.out.six H.out HB.out hf hqf _ _ _ _ _ _
  by_cases hc5 : gcls g.code = 5
  · have n2 : (gcls g.code == 2) = false := beq_eq_false_iff_ne.2 hc2
    have n3 : (gcls g.code == 3) = false := beq_eq_false_iff_ne.2 hc3
    have n5 : (gcls g.code == 5) = true := by rw [hc5]; rfl
    go_wp2_with fail
    refine (sign_t _ q s _ gs i e HS1.out hn g HGI.out hc5).mono ?_
    rintro r w2 ⟨o, ho, hO⟩
    obtain ⟨kd, tx, k, rfl, hV⟩ := hO.v
    have HV := hide hV
    have HR := hide ho
    have HT0 := hide (HT1.out.tq (hV.tq) hfq)
    clear hO hV ho
    obtain ⟨hfl, t0, t1, t2, t3, t4, t5, f0, f1, f2, f3, f4, f5⟩ := HT0.out.cells
    go_wp2
    refine bodyPost_ret (v := _) (by simp [results, Tryd.results30, go_sem, t0, t1, t2, t3, t4, t5]; try rfl) rfl ⟨o, HR.out, ?_⟩
    exact HV.out.six H.out HB.out hf hqf _ _ _ _ _ _
  · have n2 : (gcls g.code == 2) = false := beq_eq_false_iff_ne.2 hc2
    have n3 : (gcls g.code == 3) = false := beq_eq_false_iff_ne.2 hc3
    have n5 : (gcls g.code == 5) = false := beq_eq_false_iff_ne.2 hc5
    obtain ⟨hfl, t0, t1, t2, t3, t4, t5, f0, f1, f2, f3, f4, f5⟩ := HT1.out.cells
    go_wp2
    refine bodyPost_ret (v := _) (by simp [results, Tryd.results30, go_sem, t0, t1, t2, t3, t4, t5]; try rfl) rfl ⟨_, tokR_other hc2 hc3 hc5, by omega, rfl, (Tq.of_below HB.out).six hf _ _ _ _ _ _⟩
end Lm
end Go.Proofs.YtgfglefgpgckiaaDoor

namespace Go.Proofs.YtgfglefgpgckiaaDoor
namespace Lm
open Go Go.RowKit
def tflat : List Tk → List Value
  | [] => []
  | t :: ts => .int .i64 t.kind :: .string t.text :: .int .i64 t.pl.b :: .int .i64 t.pl.g :: .int .i64 t.pl.l :: .int .i64 t.pl.c :: tflat ts
theorem tflat_append (es fs : List Tk) : tflat (es ++ fs) = tflat es ++ tflat fs := by
  induction es with
  | nil => rfl
  | cons e es ih => simp [tflat, ih]
def plz : Pl := ⟨0, 0, 0, 0⟩
theorem infoT : (Tryd.prog.info? 35).map (fun i => (i.zero, i.size, i.bytes)) = some (some (.agg #[.int .i64 0, .string ⟨#[]⟩, .int .i64 0, .int .i64 0, .int .i64 0, .int .i64 0]), 6, 56) := by kernel_rfl
structure ScS (w wr : World) (q f B : Nat) (s : ByteArray) (v : Value) (gs : List Gl) (i : Nat) (e : Pl) (ts : List Tk) (tv : Value) : Prop where
  scn : Scn wr q s v gs i e
  own : wr.ownsRow B 35 6 tv ts.length (tflat ts)
  zer : PlB wr f plz
  bel : Below w.heap.size w wr
  siz : B ≤ wr.heap.size
  fw : w.heap.size ≤ f
  qw : w.heap.size ≤ q
  fq : f ≠ q
  fB : f < B
  qB : q < B
  vB : ∀ b off n c, v = .slice (some ⟨b, off, none⟩) n c → b < B
theorem ScS.below {w wr w' : World} {q f B : Nat} {s : ByteArray} {v : Value} {gs : List Gl} {i : Nat} {e : Pl} {ts : List Tk} {tv : Value} (h : ScS w wr q f B s v gs i e ts tv) (hb : Below wr.heap.size wr w') : ScS w w' q f B s v gs i e ts tv :=
  ⟨h.scn.below hb, own_below h.own hb, h.zer.below hb, h.bel.trans (hb.mono h.bel.size), Nat.le_trans h.siz hb.size, h.fw, h.qw, h.fq, h.fB, h.qB, h.vB⟩
theorem ScS.tq {w wr w' : World} {q f B : Nat} {s : ByteArray} {v : Value} {gs : List Gl} {i j : Nat} {e : Pl} {ts : List Tk} {tv : Value} (h : ScS w wr q f B s v gs i e ts tv) (ht : Tq wr w' q) (hs : Scn w' q s v gs j e) : ScS w w' q f B s v gs j e ts tv :=
  ⟨hs, own_keep h.own fun k _ hk he => (ht.other k (lt_of_heap he) (by have := h.qB; omega)).trans he, h.zer.tq ht h.fq, below_tq h.bel ht h.qw (Nat.le_refl _), Nat.le_trans h.siz ht.size, h.fw, h.qw, h.fq, h.fB, h.qB, h.vB⟩
theorem ScS.more {w wr w1 : World} {q f B : Nat} {s : ByteArray} {v : Value} {gs : List Gl} {i : Nat} {e : Pl} {ts : List Tk} {tv tv' : Value} {t : Tk} (h : ScS w wr q f B s v gs i e ts tv) (hg : wr.grownBy w1 tv.ownBlock) (hown : w1.ownsRow B 35 6 tv' (ts ++ [t]).length (tflat (ts ++ [t]))) : ScS w w1 q f B s v gs i e (ts ++ [t]) tv' := by
  have hrow : ∀ k, k < B → some k ≠ tv.ownBlock := by
    intro k hk
    obtain ⟨hl, ⟨rfl, _⟩ | ⟨b, cap, cur, rfl, hb, _⟩⟩ := h.own
    · simp [Value.ownBlock]
    · simp only [Value.ownBlock, ne_eq, Option.some.injEq]
      omega
  have hz := h.siz
  have hB : ∀ k, k < B → w1.heap[k]? = wr.heap[k]? := fun k hk => hg.block k (by omega) (hrow k hk)
  have hGs : Gs w1 v gs := by
    obtain ⟨ao, cap, rfl, h1, h2, h3, h4⟩ := h.scn.gls
    refine ⟨ao, cap, rfl, h1, h2, h3, ?_⟩
    rcases h4 with h4 | ⟨b, off, rfl, hl, hc⟩
    · exact .inl h4
    · refine .inr ⟨b, off, rfl, Nat.lt_of_lt_of_le hl hg.size, fun j u hu => ?_⟩
      rw [World.cell?_of_block (w := wr) (hB b (h.vB _ _ _ _ rfl))]
      exact hc j u hu
  exact ⟨⟨(hB q h.qB).trans h.scn.blk, hGs, h.scn.le, h.scn.apt⟩, hown, (hB f h.fB).trans h.zer, ⟨hg.os.trans h.bel.os, hg.tape.trans h.bel.tape, hg.output.trans h.bel.output, Nat.le_trans h.bel.size hg.size, fun k hk => (hB k (by have := h.fw; have := h.fB; omega)).trans (h.bel.block k hk)⟩, Nat.le_trans h.siz hg.size, h.fw, h.qw, h.fq, h.fB, h.qB, h.vB⟩
def ScanO (w w' : World) (r : Ending) : SO → Prop
  | .bad k p => r = .returned (.tuple #[.slice none 0 0, .int .i64 k, p.v])
  | .ok l => ∃ v, r = .returned (.tuple #[v, .int .i64 0, plz.v]) ∧ w'.ownsRow w.heap.size 35 6 v l.length (tflat l)
theorem pres_nil (o : SO) : o.pres [] = o := by cases o <;> rfl
theorem pres_pre (ts : List Tk) (t : Tk) (o : SO) : (o.pre t).pres ts = o.pres (ts ++ [t]) := by
  cases o with
  | bad k p => rfl
  | ok l => simp [SO.pre, SO.pres]
end Lm
end Go.Proofs.YtgfglefgpgckiaaDoor

namespace Go.Proofs.YtgfglefgpgckiaaDoor
namespace Lm
open Go Go.RowKit
set_option maxRecDepth 20000 in
set_option maxHeartbeats 1000000 in
theorem scan_long (w : World) (s : ByteArray) (hs : 4096 < s.size) :
    Calls Tryd.prog 11 #[.string s] w fun r w' => Below w.heap.size w w' ∧ r = .returned (.tuple #[.slice none 0 0, .int .i64 2, plz.v]) := by
  have hs' : (4096 : Int) < (s.size : Int) := by omega
  go_enter Tryd.func11, Tryd.ntmps11
  go_wp2
  refine bodyPost_ret (v := _) (by simp [results, Tryd.results11, go_sem]; try rfl) rfl ⟨?_, rfl⟩
  (repeat' (first | (with_reducible exact Below.refl _ _) | (with_reducible assumption) | (with_reducible refine gdrewN ?_ _) | (with_reducible refine Below.alloc ?_ ?_ _) | (with_reducible refine Below.drew ?_) | (with_reducible refine Below.setCell ?_ ?_ _) | go_size))
theorem plB_fill {w : World} {f : Nat} {p p' : Pl} (h : PlB w f p) : PlB ((((w.setCell ⟨f, 0, none⟩ (.int .i64 p'.b)).setCell ⟨f, 1, none⟩ (.int .i64 p'.g)).setCell ⟨f, 2, none⟩ (.int .i64 p'.l)).setCell ⟨f, 3, none⟩ (.int .i64 p'.c)) f p' := by
  unfold PlB
  rw [heap_setCell_same _ _ 3 _ _ _ (heap_setCell_same _ _ 2 _ _ _ (heap_setCell_same _ _ 1 _ _ _ (heap_setCell_same _ _ 0 _ _ _ h)))]
  simp
theorem fill_below {B f : Nat} {w w' : World} (h : Below B w w') (hf : B ≤ f) (u0 u1 u2 u3 : Value) : Below B w ((((w'.setCell ⟨f, 0, none⟩ u0).setCell ⟨f, 1, none⟩ u1).setCell ⟨f, 2, none⟩ u2).setCell ⟨f, 3, none⟩ u3) :=
  (((h.setCell hf _).setCell hf _).setCell hf _).setCell hf _
theorem scs_first {w w1 : World} {s : ByteArray} {ao : Option Addr} {cap : Nat} {gs : List Gl} {e : Pl} (HOWN : w1.ownsRow (w.heap.size + 2 + 2) 46 6 (.slice ao gs.length cap) gs.length (gflat gs)) (HQB : w1.heap[w.heap.size + 1]? = some (.cells #[.string s, .slice none 0 0, .int .i64 0, .int .i64 0, .int .i64 0, .int .i64 0, .int .i64 0] 63 (0, 0))) (HFB : PlB w1 w.heap.size plz) (HB1 : Below w.heap.size w w1) (hs1 : w.heap.size + 2 ≤ w1.heap.size) :
    ScS w (((((w1.setCell ⟨w.heap.size + 1, 1, none⟩ (.slice ao gs.length cap)).setCell ⟨w.heap.size + 1, 3, none⟩ (.int .i64 e.b)).setCell ⟨w.heap.size + 1, 4, none⟩ (.int .i64 e.g)).setCell ⟨w.heap.size + 1, 5, none⟩ (.int .i64 e.l)).setCell ⟨w.heap.size + 1, 6, none⟩ (.int .i64 e.c)) (w.heap.size + 1) w.heap.size w1.heap.size s (.slice ao gs.length cap) gs 0 e [] (.slice none 0 0) := by
  have ht : Tq w1 (((((w1.setCell ⟨w.heap.size + 1, 1, none⟩ (.slice ao gs.length cap)).setCell ⟨w.heap.size + 1, 3, none⟩ (.int .i64 e.b)).setCell ⟨w.heap.size + 1, 4, none⟩ (.int .i64 e.g)).setCell ⟨w.heap.size + 1, 5, none⟩ (.int .i64 e.l)).setCell ⟨w.heap.size + 1, 6, none⟩ (.int .i64 e.c)) (w.heap.size + 1) := (Tq.refl _ _).set 1 _ |>.set 3 _ |>.set 4 _ |>.set 5 _ |>.set 6 _
  have hap : ∀ b off n c, Value.slice ao gs.length cap = .slice (some ⟨b, off, none⟩) n c → b ≠ w.heap.size + 1 ∧ b < w1.heap.size := by
    intro b off n c hv
    obtain ⟨hl, ⟨h1, _⟩ | ⟨g, cap', cur, h1, hb, hh, _⟩⟩ := HOWN
    · rw [h1] at hv; cases hv
    · rw [h1] at hv
      simp only [Value.slice.injEq, Option.some.injEq, Addr.mk.injEq] at hv
      have := lt_of_heap hh
      omega
  refine ⟨⟨?_, Gs.tq (Ce.own HOWN) ht (fun b off n c hv => (hap b off n c hv).1), Nat.zero_le _, fun b off n c hv => (hap b off n c hv).1⟩, World.ownsRow_nil _ _ _ _, HFB.tq ht (by omega), below_tq HB1 ht (by omega) (Nat.le_refl _), ht.size, Nat.le_refl _, by omega, by omega, by omega, by omega, fun b off n c hv => (hap b off n c hv).2⟩
  rw [heap_setCell_same _ _ 6 _ _ _ (heap_setCell_same _ _ 5 _ _ _ (heap_setCell_same _ _ 4 _ _ _ (heap_setCell_same _ _ 3 _ _ _ (heap_setCell_same _ _ 1 _ _ _ HQB))))]
  simp
set_option maxRecDepth 20000 in
set_option maxHeartbeats 4000000 in
theorem scan_short (w : World) (s : ByteArray) (hT : Tabs w) (hs : s.size ≤ 4096) :
    Calls Tryd.prog 11 #[.string s] w fun r w' => Below w.heap.size w w' ∧ ∃ gs e o, Snd s pl0 gs e ∧ ScanR s e gs o ∧ ScanO w w' r o := by
  have hs' : decide ((4096 : Int) < (s.size : Int)) = false := by simp; omega
  go_enter Tryd.func11, Tryd.ntmps11
  go_wp2_with fail
  refine (sound_any _ _ (hT.below (by (repeat' (first | (with_reducible exact Below.refl _ _) | (with_reducible assumption) | (with_reducible refine gdrewN ?_ _) | (with_reducible refine Below.alloc ?_ ?_ _) | (with_reducible refine Below.drew ?_) | (with_reducible refine Below.setCell ?_ ?_ _) | go_size)))) hs).mono ?_
  rintro r w1 ⟨gs, e, v, hQ, rfl, hown, hb1⟩
  obtain ⟨ao, cap, rfl⟩ := own_slice hown
  have hsz0 : ((w.alloc (.cells #[.int .i64 0, .int .i64 0, .int .i64 0, .int .i64 0] 25)).alloc (.cells #[.string s, .slice none 0 0, .int .i64 0, .int .i64 0, .int .i64 0, .int .i64 0, .int .i64 0] 63)).heap.size = w.heap.size + 2 := by simp [World.size_alloc]
  have hbq := hb1
  rw [hsz0] at hown hbq
  have hqb : w1.heap[w.heap.size + 1]? = some (.cells #[.string s, .slice none 0 0, .int .i64 0, .int .i64 0, .int .i64 0, .int .i64 0, .int .i64 0] 63 (0, 0)) := by
    rw [hbq.block (w.heap.size + 1) (by omega)]
    have := heap_alloc_new (w.alloc (.cells #[.int .i64 0, .int .i64 0, .int .i64 0, .int .i64 0] 25)) (.cells #[.string s, .slice none 0 0, .int .i64 0, .int .i64 0, .int .i64 0, .int .i64 0, .int .i64 0] 63)
    rwa [World.size_alloc] at this
  have hfb : PlB w1 w.heap.size plz := by
    unfold PlB
    rw [hbq.block w.heap.size (by omega)]
    exact (((Below.refl _ _).alloc (Nat.le_refl _) (.cells #[.string s, .slice none 0 0, .int .i64 0, .int .i64 0, .int .i64 0, .int .i64 0, .int .i64 0] 63)).block w.heap.size (by simp [World.size_alloc])).trans (heap_alloc_new w (.cells #[.int .i64 0, .int .i64 0, .int .i64 0, .int .i64 0] 25))
  have hb1w : Below w.heap.size w w1 := (below_two w _ _).trans (hbq.mono (by omega))
  have hs1 : w.heap.size + 2 ≤ w1.heap.size := by have := hbq.size; rwa [hsz0] at this
  have HOWN := hide hown
  have HQB := hide hqb
  have HFB := hide hfb
  have HB1 := hide hb1w
  have HQ := hide hQ
  have k1 : w1.cell? ⟨w.heap.size + 1, 1, none⟩ = some (.slice none 0 0) := by rw [cell_of_row w1 _ 1 _ _ _ hqb]; rfl
  have k3 : w1.cell? ⟨w.heap.size + 1, 3, none⟩ = some (.int .i64 0) := by rw [cell_of_row w1 _ 3 _ _ _ hqb]; rfl
  have k4 : w1.cell? ⟨w.heap.size + 1, 4, none⟩ = some (.int .i64 0) := by rw [cell_of_row w1 _ 4 _ _ _ hqb]; rfl
  have k5 : w1.cell? ⟨w.heap.size + 1, 5, none⟩ = some (.int .i64 0) := by rw [cell_of_row w1 _ 5 _ _ _ hqb]; rfl
  have k6 : w1.cell? ⟨w.heap.size + 1, 6, none⟩ = some (.int .i64 0) := by rw [cell_of_row w1 _ 6 _ _ _ hqb]; rfl
  have f1 := frozen_of_row w1 (w.heap.size + 1) 1 _ _ hqb
  have f3 := frozen_of_row w1 (w.heap.size + 1) 3 _ _ hqb
  have f4 := frozen_of_row w1 (w.heap.size + 1) 4 _ _ hqb
  have f5 := frozen_of_row w1 (w.heap.size + 1) 5 _ _ hqb
  have f6 := frozen_of_row w1 (w.heap.size + 1) 6 _ _ hqb
  clear hown hbq hqb hfb hb1 hb1w hsz0 hQ hT
  unfold Pl.v
  go_wp2_with fail
  have hS0 := scs_first (e := e) HOWN.out HQB.out HFB.out HB1.out hs1
  clear k1 k3 k4 k5 k6 f1 f3 f4 f5 f6 HOWN HQB HFB HB1
  generalize (((((w1.setCell ⟨w.heap.size + 1, 1, none⟩ (.slice ao gs.length cap)).setCell ⟨w.heap.size + 1, 3, none⟩ (.int .i64 e.b)).setCell ⟨w.heap.size + 1, 4, none⟩ (.int .i64 e.g)).setCell ⟨w.heap.size + 1, 5, none⟩ (.int .i64 e.l)).setCell ⟨w.heap.size + 1, 6, none⟩ (.int .i64 e.c)) = w2 at hS0 ⊢
  generalize w1.heap.size = B at hS0 hs1
  have hends := HQ.out.ends pl0_ok (Nat.zero_le _)
  have hgl : gs.length ≤ 4096 := by simp only [pl0] at hends; omega
  have heb : e.b ≤ s.size := hends.2.2.1
  clear hends
  refine (skip_any w2 _ s _ gs 0 e hS0.scn (by omega)).mono ?_
  rintro r w3 ⟨rfl, ht3, j0, _, hdj0, hS3⟩
  have HS := hide (hS0.tq ht3 hS3)
  rw [List.drop_zero] at hdj0
  have HD0 := hide hdj0
  clear hS0 ht3 hS3 hdj0
  generalize hq : w.heap.size + 1 = q at *
  generalize hf : w.heap.size = f at *
  replace hf : w.heap.size ≤ f := by omega
  go_wp2
  have hqf : q ≠ f := by omega
  have hfq : f ≠ q := by omega
  clear hq
  obtain ⟨i0, hi0, hz0, hz1, hz2⟩ := info_is infoT
  go_loopw [6] (fun tv wr => ∃ (ts : List Tk) (i : Nat) (ta : Option Addr) (tc : Nat) (rest : List Gl), tv = .slice ta ts.length tc ∧ ScS w wr q f B s (.slice ao gs.length cap) gs i e ts (.slice ta ts.length tc) ∧ ts.length ≤ i ∧ gs.drop i = skp false rest ∧ ∀ o, ScanR s e rest o → ScanR s e gs (o.pres ts)) (fun _ wr => gs.length - nxtS wr q)
  case atStart => exact ⟨[], j0, none, 0, gs, rfl, HS.out, Nat.zero_le _, HD0.out, fun o h => by rw [pres_nil]; exact h⟩
  case round =>
    clear HS HD0
    obtain ⟨ts, i, ta, tc, rest, rfl, hS, hti, hdi, hpre⟩ := hrel
    have HS := hide hS
    have HE := hide hpre
    have HDI := hide hdi
    have IP := hide hS.scn.nxt
    have hil := hS.scn.le
    obtain ⟨hq, k0, k1, k2, k3, k4, k5, k6⟩ := hS.scn.cells
    clear hS hpre hdi
    by_cases hj : i < gs.length
    · have hj' : (i : Int) < (gs.length : Int) := by omega
      have hgi : gs[i]? = some (gs[i]'hj) := List.getElem?_eq_getElem hj
      have hdr := List.drop_eq_getElem_cons hj
      generalize gs[i]'hj = g at hgi hdr
      have HG := hide hgi
      have HDR := hide hdr
      clear hgi hdr
      go_wp2_with fail
      go_quiet (fail)
      have HS1 := hide (HS.out.below (gdrewN (Below.refl _ _) nq))
      clear HS k0 k1 k2 k3 k4 k5 k6 hq
      generalize wr.drewN nq = w1 at HS1 ⊢
      go_wp2_with fail
      refine (place_any w1 q s _ gs i e HS1.out.scn).mono ?_
      rintro r w2 ⟨rfl, hb2⟩
      have HS2 := hide (HS1.out.below hb2)
      rw [HDR.out]
      simp only [plf]
      clear hb2 HS1
      unfold Pl.v
      go_wp2_with fail
      have HS3 := hide (HS2.out.below ((Below.refl _ _).alloc (Nat.le_refl _) (.cells #[.int .i64 g.pl.b, .int .i64 g.pl.g, .int .i64 g.pl.l, .int .i64 g.pl.c] 25)))
      have hp3 : PlB (w2.alloc (.cells #[.int .i64 g.pl.b, .int .i64 g.pl.g, .int .i64 g.pl.l, .int .i64 g.pl.c] 25)) w2.heap.size g.pl := heap_alloc_new w2 _
      have ha3 : w2.heap.size ≠ q ∧ w2.heap.size ≠ f := by have := HS2.out.siz; have := HS2.out.qB; have := HS2.out.fB; omega
      clear HS2
      generalize w2.alloc (.cells #[.int .i64 g.pl.b, .int .i64 g.pl.g, .int .i64 g.pl.l, .int .i64 g.pl.c] 25) = w3 at HS3 hp3 ⊢
      generalize w2.heap.size = a7 at ha3 hp3 ⊢
      have HP3 := hide hp3
      clear hp3
      refine (token_any w3 q s _ gs i e HS3.out.scn (by omega) HQ.out hs g HG.out).mono ?_
      rintro r w4 ⟨o, ho, hO⟩
      obtain ⟨kd, tx, kk, rfl, hV⟩ := hO.v
      have HV := hide hV
      have HO := hide ho
      have HP4 := hide (HP3.out.tq hV.tq ha3.1)
      have HZ4 := hide (HS3.out.zer.tq hV.tq hfq)
      have HB4 := hide (below_tq HS3.out.bel hV.tq HS3.out.qw (Nat.le_refl _))
      clear hO hV ho HP3
      obtain ⟨hf7, p0, p1, p2, p3⟩ := HP4.out.cells
      by_cases hk : kk = 0
      · subst hk
        cases o with
        | bad k =>
          exfalso
          obtain ⟨h1, h2, _⟩ := HV.out.out
          simp only [tok0, Ending.returned.injEq, Value.tuple.injEq, Array.mk.injEq, List.cons.injEq, Value.int.injEq, true_and, and_true] at h2
          exact h1 h2.2.symm
        | ok kind text rest' =>
          obtain ⟨h2, hT4, j, hij, hdj, hS4⟩ := HV.out.out
          simp only [Ending.returned.injEq, Value.tuple.injEq, Array.mk.injEq, List.cons.injEq, Value.int.injEq, Value.agg.injEq, Value.string.injEq, true_and, and_true] at h2
          obtain ⟨rfl, rfl⟩ := h2
          have HS4 := hide (HS3.out.tq hT4 hS4)
          have HDJ := hide hdj
          clear hT4 hS4 hdj HS3 HV HZ4 HB4
          have hone : ∀ u ∈ ([.int .i64 kd, .string tx, .int .i64 g.pl.b, .int .i64 g.pl.g, .int .i64 g.pl.l, .int .i64 g.pl.c] : List Value), u.oneCell' = true := by
            intro u hu
            simp only [List.mem_cons, List.not_mem_nil, or_false] at hu
            rcases hu with rfl | rfl | rfl | rfl | rfl | rfl <;> rfl
          have hown := own_below (own_below HS4.out.own ((Below.refl _ _).alloc (Nat.le_refl _) (.cells #[.int .i64 kd, .string tx, .int .i64 g.pl.b, .int .i64 g.pl.g, .int .i64 g.pl.l, .int .i64 g.pl.c] 35))) ((Below.refl _ _).alloc (Nat.le_refl _) (.cells #[.int .i64 kd, .string tx, .int .i64 g.pl.b, .int .i64 g.pl.g, .int .i64 g.pl.l, .int .i64 g.pl.c] 35))
          have hsz := HS4.out.siz
          go_wp2_with (at_builtin; refine wpList_append_lies _ rfl (.tmp 55) (.tmp 57) 23 rfl B 35 i0 _ 6 56 Tryd.underlying23 hi0 hz0 hz1 hz2 rfl (by decide) (.slice ta ts.length tc) ts.length (tflat ts) (by simp [Act.eval]) hown ⟨w4.heap.size + 1, 0, none⟩ 1 1 [.int .i64 kd, .string tx, .int .i64 g.pl.b, .int .i64 g.pl.g, .int .i64 g.pl.l, .int .i64 g.pl.c] (by simp [Act.eval]) rfl (by have := World.news_of_block (heap_alloc_new (w4.alloc (.cells #[.int .i64 kd, .string tx, .int .i64 g.pl.b, .int .i64 g.pl.g, .int .i64 g.pl.l, .int .i64 g.pl.c] 35)) (.cells #[.int .i64 kd, .string tx, .int .i64 g.pl.b, .int .i64 g.pl.g, .int .i64 g.pl.l, .int .i64 g.pl.c] 35)); rwa [World.size_alloc] at this) hone (by omega) (by unfold maxLen; omega) (by omega) (by simp [World.size_alloc]; omega) _ rfl ?_; intro g1 cap1 w5 hown5 hgrow5 hat5 hlt5)
          have HS5 := hide ((HS4.out.below (below_two _ _ _)).more (t := ⟨kd, tx, g.pl⟩) hgrow5 (by simpa [tflat_append, tflat] using hown5))
          clear hown5 hgrow5 hat5 hlt5 hown hone hsz HS4
          refine (skip_any w5 q s _ gs j e HS5.out.scn (by omega)).mono ?_
          rintro r w6 ⟨rfl, ht6, j6, hj6, hdj6, hS6⟩
          have HS6 := hide (HS5.out.tq ht6 hS6)
          have HD6 := hide hdj6
          clear ht6 hS6 hdj6 HS5
          go_wp2
          go_roundw
          case rel =>
            refine ⟨ts ++ [⟨kd, tx, g.pl⟩], j6, some ⟨g1, 0, none⟩, cap1, rest', by simp, ?_, by simp; omega, by rw [HD6.out, HDJ.out], ?_⟩
            · have := HS6.out
              simpa using this
            · intro o ho
              have h1 := HE.out _ (ScanR.tok rest g (gs.drop (i + 1)) kd tx rest' o (by rw [← HDI.out, HDR.out]) HO.out ho)
              rwa [pres_pre] at h1
          case measure => rw [IP.out, HS6.out.scn.nxt]; have := HS6.out.scn.le; omega
      · have hk' : (kk != 0) = true := by simp [hk]
        cases o with
        | ok kind text rest' =>
          exfalso
          obtain ⟨h2, _⟩ := HV.out.out
          simp only [Ending.returned.injEq, Value.tuple.injEq, Array.mk.injEq, List.cons.injEq, Value.int.injEq, Value.agg.injEq, Value.string.injEq, true_and, and_true] at h2
          exact hk h2.2
        | bad k =>
          obtain ⟨h1, h2, _⟩ := HV.out.out
          simp only [tok0, Ending.returned.injEq, Value.tuple.injEq, Array.mk.injEq, List.cons.injEq, Value.int.injEq, Value.agg.injEq, Value.string.injEq, true_and, and_true] at h2
          have hkk : kk = k := h2.2
          have HKK := hide hkk
          clear h2 hkk HV
          obtain ⟨hff, y0, y1, y2, y3⟩ := HZ4.out.cells
          have f0 := frozen_of_row w4 f 0 _ _ HZ4.out
          have f1 := frozen_of_row w4 f 1 _ _ HZ4.out
          have f2 := frozen_of_row w4 f 2 _ _ HZ4.out
          have f3 := frozen_of_row w4 f 3 _ _ HZ4.out
          go_wp2_with fail
          go_region
          go_wp2
          have hX : PlB ((((((w4.setCell ⟨f, 0, none⟩ (.int .i64 g.pl.b)).setCell ⟨f, 1, none⟩ (.int .i64 g.pl.g)).setCell ⟨f, 2, none⟩ (.int .i64 g.pl.l)).setCell ⟨f, 3, none⟩ (.int .i64 g.pl.c)).alloc (.cells #[.int .i64 kd, .string tx, .int .i64 0, .int .i64 0, .int .i64 0, .int .i64 0] 35)).drew) f g.pl := (plB_fill HZ4.out).below (((Below.refl _ _).alloc (Nat.le_refl _) _).drew)
          have hXB : Below w.heap.size w ((((((w4.setCell ⟨f, 0, none⟩ (.int .i64 g.pl.b)).setCell ⟨f, 1, none⟩ (.int .i64 g.pl.g)).setCell ⟨f, 2, none⟩ (.int .i64 g.pl.l)).setCell ⟨f, 3, none⟩ (.int .i64 g.pl.c)).alloc (.cells #[.int .i64 kd, .string tx, .int .i64 0, .int .i64 0, .int .i64 0, .int .i64 0] 35)).drew) := ((fill_below HB4.out hf _ _ _ _).alloc (by have := HB4.out.size; simpa [World.setCell] using this) _).drew
          generalize ((((((w4.setCell ⟨f, 0, none⟩ (.int .i64 g.pl.b)).setCell ⟨f, 1, none⟩ (.int .i64 g.pl.g)).setCell ⟨f, 2, none⟩ (.int .i64 g.pl.l)).setCell ⟨f, 3, none⟩ (.int .i64 g.pl.c)).alloc (.cells #[.int .i64 kd, .string tx, .int .i64 0, .int .i64 0, .int .i64 0, .int .i64 0] 35)).drew) = wf at hX hXB ⊢
          obtain ⟨_, x0, x1, x2, x3⟩ := hX.cells
          refine bodyPost_ret (v := _) (by simp [results, Tryd.results11, go_sem, x0, x1, x2, x3]; try rfl) rfl ⟨hXB, gs, e, .bad k g.pl, HQ.out, HE.out _ (ScanR.bad rest g (gs.drop (i + 1)) k (by rw [← HDI.out, HDR.out]) HO.out), ?_⟩
          show _ = _
          rw [HKK.out]
          rfl
    · have hdr : gs.drop i = [] := List.drop_eq_nil_of_le (by omega)
      rw [hdr] at HDI
      have hj' : decide ((i : Int) < (gs.length : Int)) = false := by simp; omega
      clear hdr
      by_cases hbe : e.b < s.size
      · have hbe' : (e.b : Int) < (s.size : Int) := by omega
        obtain ⟨hff, y0, y1, y2, y3⟩ := HS.out.zer.cells
        have f0 := frozen_of_row wr f 0 _ _ HS.out.zer
        have f1 := frozen_of_row wr f 1 _ _ HS.out.zer
        have f2 := frozen_of_row wr f 2 _ _ HS.out.zer
        have f3 := frozen_of_row wr f 3 _ _ HS.out.zer
        go_wp2_with fail
        go_quiet (fail)
        go_wp2_with fail
        go_region
        go_wp2
        refine bodyPost_ret (v := _) (by simp [results, Tryd.results11, go_sem, y0, y1, y2, y3]; try rfl) rfl ⟨?_, gs, e, .bad 40 e, HQ.out, HE.out _ (ScanR.rune rest HDI.out.symm hbe), rfl⟩
        have hB := HS.out.bel
        (repeat' (first | (with_reducible exact Below.refl _ _) | (with_reducible assumption) | (with_reducible refine gdrewN ?_ _) | (with_reducible refine Below.alloc ?_ ?_ _) | (with_reducible refine Below.drew ?_) | (with_reducible refine Below.setCell ?_ ?_ _) | go_size))
      · have hbe' : decide ((e.b : Int) < (s.size : Int)) = false := by simp; omega
        have hone : ∀ u ∈ ([.int .i64 0, .string ⟨#[]⟩, .int .i64 e.b, .int .i64 e.g, .int .i64 e.l, .int .i64 e.c] : List Value), u.oneCell' = true := by
          intro u hu
          simp only [List.mem_cons, List.not_mem_nil, or_false] at hu
          rcases hu with rfl | rfl | rfl | rfl | rfl | rfl <;> rfl
        go_wp2_with fail
        go_quiet (fail)
        have HS1 := hide (HS.out.below (gdrewN (Below.refl _ _) nq))
        clear HS k0 k1 k2 k3 k4 k5 k6 hq
        generalize wr.drewN nq = w1 at HS1 ⊢
        obtain ⟨hq, k0, k1, k2, k3, k4, k5, k6⟩ := HS1.out.scn.cells
        have hown := own_below HS1.out.own ((Below.refl _ _).alloc (Nat.le_refl _) (.cells #[.int .i64 0, .string ⟨#[]⟩, .int .i64 e.b, .int .i64 e.g, .int .i64 e.l, .int .i64 e.c] 35))
        have hsz := HS1.out.siz
        go_wp2_with (at_builtin; refine wpList_append_lies _ rfl (.tmp 71) (.tmp 77) 23 rfl B 35 i0 _ 6 56 Tryd.underlying23 hi0 hz0 hz1 hz2 rfl (by decide) (.slice ta ts.length tc) ts.length (tflat ts) (by simp [Act.eval]) hown ⟨w1.heap.size, 0, none⟩ 1 1 [.int .i64 0, .string ⟨#[]⟩, .int .i64 e.b, .int .i64 e.g, .int .i64 e.l, .int .i64 e.c] (by simp [Act.eval]) rfl (World.news_of_block (heap_alloc_new w1 (.cells #[.int .i64 0, .string ⟨#[]⟩, .int .i64 e.b, .int .i64 e.g, .int .i64 e.l, .int .i64 e.c] 35))) hone (by omega) (by unfold maxLen; omega) (by omega) (by simp [World.size_alloc]; omega) _ rfl ?_; intro g1 cap1 w5 hown5 hgrow5 hat5 hlt5; have HS5 := hide ((HS1.out.below ((Below.refl _ _).alloc (Nat.le_refl _) _)).more (t := ⟨0, ⟨#[]⟩, e⟩) hgrow5 (by simpa [tflat_append, tflat] using hown5)); obtain ⟨hff, y0, y1, y2, y3⟩ := HS5.out.zer.cells; have f0 := frozen_of_row w5 f 0 _ _ HS5.out.zer; have f1 := frozen_of_row w5 f 1 _ _ HS5.out.zer; have f2 := frozen_of_row w5 f 2 _ _ HS5.out.zer; have f3 := frozen_of_row w5 f 3 _ _ HS5.out.zer; clear hown5 hgrow5 hat5 hlt5)
        refine bodyPost_ret (v := .tuple #[.slice (some ⟨g1, 0, none⟩) (ts.length + 1) cap1, .int .i64 0, plz.v]) (by simp [results, Tryd.results11, go_sem, y0, y1, y2, y3, plz, Pl.v]) rfl ⟨?_, gs, e, .ok (ts ++ [(⟨0, ⟨#[]⟩, e⟩ : Tk)]), HQ.out, HE.out _ (ScanR.done rest HDI.out.symm (by omega)), _, rfl, ?_⟩
        · have hB := HS5.out.bel
          (repeat' (first | (with_reducible exact Below.refl _ _) | (with_reducible assumption) | (with_reducible refine gdrewN ?_ _) | (with_reducible refine Below.alloc ?_ ?_ _) | (with_reducible refine Below.drew ?_) | (with_reducible refine Below.setCell ?_ ?_ _) | go_size))
        · have e5 : (ts ++ [(⟨0, ⟨#[]⟩, e⟩ : Tk)]).length = ts.length + 1 := by simp
          have h5 := HS5.out.own
          rw [e5] at h5 ⊢
          refine own_mono (own_keep h5 ?_) (show w.heap.size ≤ B by omega)
          intro k o hk he
          have hkf : k ≠ f := by omega
          rw [heap_setCell_other _ ⟨f, 3, none⟩ k _ hkf, heap_setCell_other _ ⟨f, 2, none⟩ k _ hkf, heap_setCell_other _ ⟨f, 1, none⟩ k _ hkf, heap_setCell_other _ ⟨f, 0, none⟩ k _ hkf]
          exact he
theorem scan_any (w : World) (s : ByteArray) (hT : Tabs w) :
    Calls Tryd.prog 11 #[.string s] w fun r w' => Below w.heap.size w w' ∧ ((4096 < s.size ∧ r = .returned (.tuple #[.slice none 0 0, .int .i64 2, plz.v])) ∨ (s.size ≤ 4096 ∧ ∃ gs e o, Snd s pl0 gs e ∧ ScanR s e gs o ∧ ScanO w w' r o)) := by
  by_cases hs : 4096 < s.size
  · exact (scan_long w s hs).mono fun r w' h => ⟨h.1, .inl ⟨hs, h.2⟩⟩
  · exact (scan_short w s hT (by omega)).mono fun r w' h => ⟨h.1, .inr ⟨by omega, h.2⟩⟩
end Lm
end Go.Proofs.YtgfglefgpgckiaaDoor

namespace Go.Proofs.YtgfglefgpgckiaaDoor
namespace Lm
open Go Go.RowKit
theorem snd_step {s : ByteArray} {p e : Pl} {gs : List Gl} {c k : Nat} (h : p.b < s.size) (hd : Utf8.decode s p.b = (c, k)) (hc : (c, k) ≠ (65533, 1)) (hr : Snd s (p.past c k) gs e) : Snd s p (⟨c, p⟩ :: gs) e := by
  have := Snd.go p gs e h (by rw [hd]; exact hc) (by rw [hd]; exact hr)
  rwa [hd] at this
theorem tok_name {s : ByteArray} {e : Pl} {g : Gl} {r t : List Gl} {x : ByteArray} (h : gcls g.code = 2) (ht : (g :: r).dropWhile (inC [2, 3, 4]) = t) (hl : ¬ 16 < (g :: r).length - t.length) (hx : s.extract g.pl.b (plf t e).b = x) : TokR s e g r (.ok 1 x t) := by
  have := tokR_name (s := s) (e := e) (r := r) h
  rwa [ht, if_neg hl, hx] at this
def aws : ByteArray := ⟨#[206, 177, 32, 226, 137, 148, 32, 50, 120]⟩
theorem aws_snd : Snd aws pl0 [⟨945, ⟨0, 0, 1, 1⟩⟩, ⟨32, ⟨2, 1, 1, 2⟩⟩, ⟨8788, ⟨3, 2, 1, 3⟩⟩, ⟨32, ⟨6, 3, 1, 4⟩⟩, ⟨50, ⟨7, 4, 1, 5⟩⟩, ⟨120, ⟨8, 5, 1, 6⟩⟩] ⟨9, 6, 1, 7⟩ := by
  refine snd_step (k := 2) (by decide) (by kernel_rfl) (by decide) ?_
  refine snd_step (p := ⟨2, 1, 1, 2⟩) (k := 1) (by decide) (by kernel_rfl) (by decide) ?_
  refine snd_step (p := ⟨3, 2, 1, 3⟩) (k := 3) (by decide) (by kernel_rfl) (by decide) ?_
  refine snd_step (p := ⟨6, 3, 1, 4⟩) (k := 1) (by decide) (by kernel_rfl) (by decide) ?_
  refine snd_step (p := ⟨7, 4, 1, 5⟩) (k := 1) (by decide) (by kernel_rfl) (by decide) ?_
  refine snd_step (p := ⟨8, 5, 1, 6⟩) (k := 1) (by decide) (by kernel_rfl) (by decide) ?_
  exact .stop ⟨9, 6, 1, 7⟩ (.inl (by decide))
theorem aws_scan : ScanR aws ⟨9, 6, 1, 7⟩ [⟨945, ⟨0, 0, 1, 1⟩⟩, ⟨32, ⟨2, 1, 1, 2⟩⟩, ⟨8788, ⟨3, 2, 1, 3⟩⟩, ⟨32, ⟨6, 3, 1, 4⟩⟩, ⟨50, ⟨7, 4, 1, 5⟩⟩, ⟨120, ⟨8, 5, 1, 6⟩⟩] (.ok [⟨1, ⟨#[206, 177]⟩, ⟨0, 0, 1, 1⟩⟩, ⟨3, ⟨#[58, 61]⟩, ⟨3, 2, 1, 3⟩⟩, ⟨2, ⟨#[50]⟩, ⟨7, 4, 1, 5⟩⟩, ⟨1, ⟨#[120]⟩, ⟨8, 5, 1, 6⟩⟩, ⟨0, ⟨#[]⟩, ⟨9, 6, 1, 7⟩⟩]) := by
  refine ScanR.tok _ ⟨945, ⟨0, 0, 1, 1⟩⟩ [⟨32, ⟨2, 1, 1, 2⟩⟩, ⟨8788, ⟨3, 2, 1, 3⟩⟩, ⟨32, ⟨6, 3, 1, 4⟩⟩, ⟨50, ⟨7, 4, 1, 5⟩⟩, ⟨120, ⟨8, 5, 1, 6⟩⟩] 1 ⟨#[206, 177]⟩ [⟨32, ⟨2, 1, 1, 2⟩⟩, ⟨8788, ⟨3, 2, 1, 3⟩⟩, ⟨32, ⟨6, 3, 1, 4⟩⟩, ⟨50, ⟨7, 4, 1, 5⟩⟩, ⟨120, ⟨8, 5, 1, 6⟩⟩] (.ok [⟨3, ⟨#[58, 61]⟩, ⟨3, 2, 1, 3⟩⟩, ⟨2, ⟨#[50]⟩, ⟨7, 4, 1, 5⟩⟩, ⟨1, ⟨#[120]⟩, ⟨8, 5, 1, 6⟩⟩, ⟨0, ⟨#[]⟩, ⟨9, 6, 1, 7⟩⟩]) (by kernel_rfl) (tok_name (by kernel_rfl) (by kernel_rfl) (by decide) (by kernel_rfl)) ?_
  refine ScanR.tok _ ⟨8788, ⟨3, 2, 1, 3⟩⟩ [⟨32, ⟨6, 3, 1, 4⟩⟩, ⟨50, ⟨7, 4, 1, 5⟩⟩, ⟨120, ⟨8, 5, 1, 6⟩⟩] 3 ⟨#[58, 61]⟩ [⟨32, ⟨6, 3, 1, 4⟩⟩, ⟨50, ⟨7, 4, 1, 5⟩⟩, ⟨120, ⟨8, 5, 1, 6⟩⟩] (.ok [⟨2, ⟨#[50]⟩, ⟨7, 4, 1, 5⟩⟩, ⟨1, ⟨#[120]⟩, ⟨8, 5, 1, 6⟩⟩, ⟨0, ⟨#[]⟩, ⟨9, 6, 1, 7⟩⟩]) (by kernel_rfl) (tokR_sign (by kernel_rfl)) ?_
  have hnum : TokR aws ⟨9, 6, 1, 7⟩ ⟨50, ⟨7, 4, 1, 5⟩⟩ [⟨120, ⟨8, 5, 1, 6⟩⟩] (.ok 2 ⟨#[50]⟩ [⟨120, ⟨8, 5, 1, 6⟩⟩]) := by
    have hv : dval (bytesOf (aws.extract 7 8)) = 2 := by kernel_rfl
    have h1 : IsLen (dval (bytesOf (aws.extract 7 8))) 1 := ⟨[2], ⟨by intro z hz; simp at hz; omega, by kernel_rfl⟩, by rw [hv]; kernel_rfl, rfl⟩
    have h2 : IsDec [50] (dval (bytesOf (aws.extract 7 8))) := ⟨by intro z hz; simp at hz; omega, by rw [hv]; kernel_rfl, .inr ⟨50, [], rfl, by decide⟩⟩
    exact tokR_num (s := aws) (e := ⟨9, 6, 1, 7⟩) (g := ⟨50, ⟨7, 4, 1, 5⟩⟩) (r := [⟨120, ⟨8, 5, 1, 6⟩⟩]) (n := 1) (ds := [50]) (by kernel_rfl) h1 h2
  refine ScanR.tok _ ⟨50, ⟨7, 4, 1, 5⟩⟩ [⟨120, ⟨8, 5, 1, 6⟩⟩] 2 ⟨#[50]⟩ [⟨120, ⟨8, 5, 1, 6⟩⟩] (.ok [⟨1, ⟨#[120]⟩, ⟨8, 5, 1, 6⟩⟩, ⟨0, ⟨#[]⟩, ⟨9, 6, 1, 7⟩⟩]) (by kernel_rfl) hnum ?_
  refine ScanR.tok _ ⟨120, ⟨8, 5, 1, 6⟩⟩ [] 1 ⟨#[120]⟩ [] (.ok [⟨0, ⟨#[]⟩, ⟨9, 6, 1, 7⟩⟩]) (by kernel_rfl) (tok_name (by kernel_rfl) (by kernel_rfl) (by decide) (by kernel_rfl)) ?_
  exact ScanR.done _ (by kernel_rfl) (by decide)
set_option maxRecDepth 20000 in
set_option maxHeartbeats 1000000 in
theorem gawake_any (w : World) (hT : Tabs w) :
    Calls Tryd.prog 9 #[] w fun r w' => r = .returned (.bool true) ∧ Below w.heap.size w w' := by
  have K : Calls Tryd.prog 11 #[.string ⟨#[206, 177, 32, 226, 137, 148, 32, 50, 120]⟩] w fun r w' => Below w.heap.size w w' ∧ ∃ v, r = .returned (.tuple #[v, .int .i64 0, .agg #[.int .i64 0, .int .i64 0, .int .i64 0, .int .i64 0]]) ∧ w'.ownsRow w.heap.size 35 6 v 5 (tflat [⟨1, ⟨#[206, 177]⟩, ⟨0, 0, 1, 1⟩⟩, ⟨3, ⟨#[58, 61]⟩, ⟨3, 2, 1, 3⟩⟩, ⟨2, ⟨#[50]⟩, ⟨7, 4, 1, 5⟩⟩, ⟨1, ⟨#[120]⟩, ⟨8, 5, 1, 6⟩⟩, ⟨0, ⟨#[]⟩, ⟨9, 6, 1, 7⟩⟩]) := by
    refine (scan_any w aws hT).mono ?_
    rintro r w' ⟨hb, ⟨h, _⟩ | ⟨_, gs, e, o, h1, h2, h3⟩⟩
    · exact absurd h (by decide)
    · obtain ⟨rfl, rfl⟩ := h1.one aws_snd
      obtain rfl := h2.one aws_scan
      obtain ⟨v, h4, h5⟩ := h3
      exact ⟨hb, v, h4, h5⟩
  go_enter Tryd.func9, Tryd.ntmps9
  go_wp2_with fail
  refine K.mono ?_
  rintro r w1 ⟨hb, v, rfl, hown⟩
  have HB := hide hb
  obtain ⟨ao, cap, rfl, c1, c2, c3, c4⟩ := Ce.own hown
  rcases c4 with c4 | ⟨b, off, rfl, hl, hc⟩
  · omega
  have t0 : w1.cell? ⟨b, off + 1, none⟩ = some (.string ⟨#[206, 177]⟩) := hc 1 _ rfl
  have t1 : w1.cell? ⟨b, off + 6 + 1, none⟩ = some (.string ⟨#[58, 61]⟩) := hc 7 _ rfl
  have t2 : w1.cell? ⟨b, off + 12 + 1, none⟩ = some (.string ⟨#[50]⟩) := hc 13 _ rfl
  have t3 : w1.cell? ⟨b, off + 18 + 1, none⟩ = some (.string ⟨#[120]⟩) := hc 19 _ rfl
  have t4 : w1.cell? ⟨b, off + 24, none⟩ = some (.int .i64 0) := hc 24 _ rfl
  have hK2 : gcls 945 = 2 := by kernel_rfl
  clear hb hown c1 c2 c3 hc K
  go_wp2_with (go_at_call 23; refine (gcls_any _ _).mono ?_; rintro r w' ⟨rfl, rfl⟩)
  go_ret
  exact ⟨rfl, HB.out.alloc HB.out.size _⟩
end Lm
end Go.Proofs.YtgfglefgpgckiaaDoor

namespace Go.Proofs.YtgfglefgpgckiaaDoor
namespace Lm
open Go Go.RowKit
def Ts (w : World) (v : Value) (l : List Tk) : Prop := Ce w v 6 l.length (tflat l)
theorem tflat_at {l : List Tk} {i : Nat} {t : Tk} (h : l[i]? = some t) : (tflat l)[i * 6]? = some (.int .i64 t.kind) ∧ (tflat l)[i * 6 + 1]? = some (.string t.text) ∧ (tflat l)[i * 6 + 2]? = some (.int .i64 t.pl.b) ∧ (tflat l)[i * 6 + 3]? = some (.int .i64 t.pl.g) ∧ (tflat l)[i * 6 + 4]? = some (.int .i64 t.pl.l) ∧ (tflat l)[i * 6 + 5]? = some (.int .i64 t.pl.c) := by
  induction l generalizing i with
  | nil => simp at h
  | cons u l ih =>
    cases i with
    | zero =>
      simp at h
      subst h
      simp [tflat]
    | succ i =>
      have := ih (i := i) (by simpa using h)
      simp only [tflat, show (i + 1) * 6 = i * 6 + 6 from by omega]
      simpa using this
structure TkC (w : World) (b o : Nat) (t : Tk) : Prop where
  hb : b < w.heap.size
  g0 : w.cell? ⟨b, o, none⟩ = some (.int .i64 t.kind)
  g1 : w.cell? ⟨b, o + 1, none⟩ = some (.string t.text)
  g2 : w.cell? ⟨b, o + 2, none⟩ = some (.int .i64 t.pl.b)
  g3 : w.cell? ⟨b, o + 3, none⟩ = some (.int .i64 t.pl.g)
  g4 : w.cell? ⟨b, o + 4, none⟩ = some (.int .i64 t.pl.l)
  g5 : w.cell? ⟨b, o + 5, none⟩ = some (.int .i64 t.pl.c)
theorem TkC.below {w w' : World} {b o : Nat} {t : Tk} (h : TkC w b o t) (hb : Below w.heap.size w w') : TkC w' b o t :=
  ⟨Nat.lt_of_lt_of_le h.hb hb.size, (hb.cell (p := ⟨b, o, none⟩) h.hb).trans h.g0, (hb.cell (p := ⟨b, o + 1, none⟩) h.hb).trans h.g1, (hb.cell (p := ⟨b, o + 2, none⟩) h.hb).trans h.g2, (hb.cell (p := ⟨b, o + 3, none⟩) h.hb).trans h.g3, (hb.cell (p := ⟨b, o + 4, none⟩) h.hb).trans h.g4, (hb.cell (p := ⟨b, o + 5, none⟩) h.hb).trans h.g5⟩
theorem Ts.tok {w : World} {ao : Option Addr} {n cap : Nat} {l : List Tk} {i : Nat} {t : Tk} (h : Ts w (.slice ao n cap) l) (hg : l[i]? = some t) : ∃ b off, ao = some ⟨b, off, none⟩ ∧ TkC w b (off + i * 6) t := by
  obtain ⟨ao', cap', hv, c1, c2, c3, c4⟩ := h
  obtain ⟨rfl, rfl, rfl⟩ := (Value.slice.injEq .. ▸ hv)
  have hk : i < l.length := (List.getElem?_eq_some_iff.1 hg).1
  rcases c4 with c4 | ⟨b, off, rfl, hl, hc⟩
  · omega
  · obtain ⟨f0, f1, f2, f3, f4, f5⟩ := tflat_at hg
    exact ⟨b, off, rfl, hl, hc _ _ f0, hc _ _ f1, hc _ _ f2, hc _ _ f3, hc _ _ f4, hc _ _ f5⟩
theorem Ts.parts {w : World} {v : Value} {l : List Tk} (h : Ts w v l) : ∃ ao cap, v = .slice ao l.length cap ∧ l.length ≤ 9223372036854775807 := by
  obtain ⟨ao, cap, rfl, c1, c2, c3, c4⟩ := h
  exact ⟨ao, cap, rfl, by omega⟩
theorem Ts.own {w : World} {base : Nat} {v : Value} {l : List Tk} (h : w.ownsRow base 35 6 v l.length (tflat l)) : Ts w v l := Ce.own h
def kx (t : Tk) : Int × ByteArray := (t.kind, t.text)
end Lm
end Go.Proofs.YtgfglefgpgckiaaDoor

namespace Go.Proofs
open Go.Shelf
shelf_lay Lays.n169 Nm 169 at Tryd as Tryd.lays169
namespace YtgfglefgpgckiaaDoor
namespace Lm
open Go Go.RowKit
end Lm
end YtgfglefgpgckiaaDoor
end Go.Proofs

namespace Go.Proofs.YtgfglefgpgckiaaDoor
namespace Lm
open Go Go.RowKit
theorem canon_nat (n : Nat) : ∃ rs, Canon rs ∧ val rs = (n : Int) := by
  induction n using Nat.strongRecOn with
  | _ n ih =>
    by_cases h : n = 0
    · subst h; exact ⟨[], canon_nil, rfl⟩
    · obtain ⟨rs, hc, hv⟩ := ih (n / 4294967296) (by omega)
      refine ⟨((n % 4294967296 : Nat) : Int) :: rs, ⟨?_, ?_⟩, ?_⟩
      · intro z hz
        rcases List.mem_cons.1 hz with rfl | hz
        · omega
        · exact hc.1 z hz
      · have h1 := hc.2
        rw [tl]
        cases rs with
        | nil =>
          simp only [val] at hv
          simp only [tl, List.length_nil, List.length_cons]
          simp
          omega
        | cons z zs =>
          rw [h1]
          simp
      · rw [val, hv]; omega
end Lm
end Go.Proofs.YtgfglefgpgckiaaDoor

namespace Go.Proofs.YtgfglefgpgckiaaDoor
namespace Lm
open Go Go.RowKit
def skc : Bool → List Nat → List Nat
  | _, [] => []
  | true, c :: cs => skc (decide (c ≠ 10)) cs
  | false, c :: cs => if gcls c = 6 then skc true cs else if gcls c = 1 then skc false cs else c :: cs
def inK (ks : List Int) (c : Nat) : Bool := decide (gcls c ∈ ks)
def bts (l : List UInt8) : ByteArray := ⟨l.toArray⟩
def Stop (ks : List Int) (r : List Nat) : Prop := ∀ c t, r = c :: t → inK ks c = false
inductive TokC : List Nat → Int → ByteArray → List Nat → Prop
  | name (c : Nat) (u r : List Nat) (hc : gcls c = 2) (hu : ∀ d ∈ c :: u, inK [2, 3, 4] d = true) (hr : Stop [2, 3, 4] r) (hl : (c :: u).length ≤ 16) : TokC ((c :: u) ++ r) 1 (bts (encs (c :: u))) r
  | num (c : Nat) (u r : List Nat) (n : Nat) (ds : List Int) (hu : ∀ d ∈ c :: u, inK [3] d = true) (hr : Stop [3] r) (hn : IsLen (dval (bytesOf (bts (encs (c :: u))))) n) (hl : n ≤ 32) (hd : IsDec ds (dval (bytesOf (bts (encs (c :: u)))))) : TokC ((c :: u) ++ r) 2 (strOfNums ds) r
  | two (c : Nat) (x : Int) (r : List Nat) (h : (c = 8788 ∧ x = 58) ∨ (c = 8800 ∧ x = 33)) : TokC ([c] ++ r) 3 (strOfNums [x, 61]) r
  | pair (c : Nat) (r : List Nat) (h : c = 58 ∨ c = 33) : TokC ([c, 61] ++ r) 3 (strOfNums [(c : Int), 61]) r
  | sign (c : Nat) (r : List Nat) (hc : gcls c = 5) (h : c ≠ 8788 ∧ c ≠ 8800 ∧ c ≠ 58 ∧ c ≠ 33) : TokC ([c] ++ r) 3 (strOfNums [gfold c]) r
inductive ScanC : List Nat → List (Int × ByteArray) → Prop
  | done (r : List Nat) (h : skc false r = []) : ScanC r [(0, ⟨#[]⟩)]
  | tok (r : List Nat) (k : Int) (x : ByteArray) (rest : List Nat) (ts : List (Int × ByteArray)) (h : TokC (skc false r) k x rest) (hr : ScanC rest ts) : ScanC r ((k, x) :: ts)
theorem adv_append (p : Pl) (a b : List Nat) : adv p (a ++ b) = adv (adv p a) b := by
  induction a generalizing p with
  | nil => rfl
  | cons c a ih => simp only [List.cons_append, adv, ih]
theorem encs_append (a b : List Nat) : encs (a ++ b) = encs a ++ encs b := by
  induction a with
  | nil => rfl
  | cons c a ih => simp only [List.cons_append, encs, ih, List.append_assoc]
theorem plf_glf (p : Pl) (cs : List Nat) : plf (glf p cs) (adv p cs) = p := by
  cases cs <;> rfl
theorem skp_glf (b : Bool) (p : Pl) (cs : List Nat) : ∃ a, cs = a ++ skc b cs ∧ skp b (glf p cs) = glf (adv p a) (skc b cs) := by
  induction cs generalizing b p with
  | nil => exact ⟨[], by cases b <;> rfl, by cases b <;> rfl⟩
  | cons c cs ih =>
    cases b with
    | true =>
      obtain ⟨a, h1, h2⟩ := ih (decide (c ≠ 10)) (p.past c (encL c).length)
      refine ⟨c :: a, ?_, ?_⟩
      · rw [skc, List.cons_append, ← h1]
      · simp only [glf, skp, skc]
        rw [h2]; rfl
    | false =>
      by_cases h6 : gcls c = 6
      · obtain ⟨a, h1, h2⟩ := ih true (p.past c (encL c).length)
        refine ⟨c :: a, ?_, ?_⟩
        · rw [skc, if_pos h6, List.cons_append, ← h1]
        · simp only [glf, skp, skc]
          rw [if_pos h6, if_pos h6, h2]; rfl
      · by_cases h1c : gcls c = 1
        · obtain ⟨a, h1, h2⟩ := ih false (p.past c (encL c).length)
          refine ⟨c :: a, ?_, ?_⟩
          · rw [skc, if_neg h6, if_pos h1c, List.cons_append, ← h1]
          · simp only [glf, skp, skc]
            rw [if_neg h6, if_pos h1c, if_neg h6, if_pos h1c, h2]; rfl
        · refine ⟨[], ?_, ?_⟩
          · rw [skc, if_neg h6, if_neg h1c]; rfl
          · simp only [glf, skp, skc]
            rw [if_neg h6, if_neg h1c, if_neg h6, if_neg h1c]; rfl
theorem dropWhile_glf (ks : List Int) (p : Pl) (cs : List Nat) : ∃ u r, cs = u ++ r ∧ (glf p cs).dropWhile (inC ks) = glf (adv p u) r ∧ (∀ d ∈ u, inK ks d = true) ∧ Stop ks r := by
  induction cs generalizing p with
  | nil => exact ⟨[], [], rfl, rfl, by simp, by intro c t h; cases h⟩
  | cons c cs ih =>
    by_cases hc : inK ks c = true
    · obtain ⟨u, r, h1, h2, h3, h4⟩ := ih (p.past c (encL c).length)
      refine ⟨c :: u, r, by rw [List.cons_append, ← h1], ?_, ?_, h4⟩
      · rw [glf, List.dropWhile_cons_of_pos (show inC ks ⟨c, p⟩ = true from hc), h2]; rfl
      · intro d hd
        rcases List.mem_cons.1 hd with rfl | hd
        · exact hc
        · exact h3 d hd
    · refine ⟨[], c :: cs, rfl, ?_, by simp, ?_⟩
      · rw [glf, List.dropWhile_cons_of_neg (show ¬ inC ks ⟨c, p⟩ = true from hc)]; rfl
      · intro d t h
        obtain ⟨rfl, rfl⟩ := List.cons.inj h
        simpa using hc
theorem stop_one {ks : List Int} : ∀ {u r u' r' : List Nat}, u ++ r = u' ++ r' → (∀ d ∈ u, inK ks d = true) → (∀ d ∈ u', inK ks d = true) → Stop ks r → Stop ks r' → u = u' ∧ r = r'
  | [], r, [], r', h, _, _, _, _ => ⟨rfl, h⟩
  | [], r, c :: u', r', h, _, h2, h3, _ => by
    have := h3 c (u' ++ r') h
    rw [h2 c (by simp)] at this
    cases this
  | c :: u, r, [], r', h, h1, _, _, h4 => by
    have := h4 c (u ++ r) h.symm
    rw [h1 c (by simp)] at this
    cases this
  | c :: u, r, d :: u', r', h, h1, h2, h3, h4 => by
    obtain ⟨rfl, h'⟩ := List.cons.inj h
    obtain ⟨e1, e2⟩ := stop_one h' (fun x hx => h1 x (by simp [hx])) (fun x hx => h2 x (by simp [hx])) h3 h4
    exact ⟨by rw [e1], e2⟩
theorem extract_encs (s : ByteArray) (L : List UInt8) (u r : List Nat) (p : Pl) (hp : p.b = L.length) (h : s.data.toList = L ++ encs (u ++ r)) : s.extract p.b (adv p u).b = bts (encs u) := by
  have hd : (s.extract p.b (adv p u).b).data.toList = encs u := by
    rw [ByteArray.data_extract, Array.toList_extract, List.extract_eq_take_drop, h, encs_append, adv_b, hp, List.drop_left, show L.length + (encs u).length - L.length = (encs u).length from by omega, List.take_left]
  cases hx : s.extract p.b (adv p u).b with
  | mk d =>
    rw [hx] at hd
    unfold bts
    rw [← hd]
theorem gsign_cases {c : Nat} (h1 : c ≠ 8788) (h2 : c ≠ 8800) : gfold c ≠ 8788 ∧ gfold c ≠ 8800 := by
  unfold gfold
  repeat' split
  all_goals omega
theorem gfold_58 {c : Nat} : gfold c = 58 ↔ c = 58 := by
  unfold gfold
  repeat' split
  all_goals omega
theorem gfold_33 {c : Nat} : gfold c = 33 ↔ c = 33 := by
  unfold gfold
  repeat' split
  all_goals omega
theorem tokR_C (s : ByteArray) (L : List UInt8) (c : Nat) (t : List Nat) (p : Pl) (hp : p.b = L.length) (h : s.data.toList = L ++ encs (c :: t)) (k : Int) (x : ByteArray) (rest : List Gl)
    (hT : TokR s (adv p (c :: t)) ⟨c, p⟩ (glf (p.past c (encL c).length) t) (.ok k x rest)) : ∃ v r, c :: t = v ++ r ∧ rest = glf (adv p v) r ∧ TokC (c :: t) k x r := by
  unfold TokR at hT
  have hgl : (⟨c, p⟩ : Gl) :: glf (p.past c (encL c).length) t = glf p (c :: t) := rfl
  rw [hgl] at hT
  simp only at hT
  by_cases c2 : gcls c = 2
  · rw [if_pos c2] at hT
    obtain ⟨u, r, h1, h2, h3, h4⟩ := dropWhile_glf [2, 3, 4] p (c :: t)
    have hcu : ∃ u', u = c :: u' := by
      cases u with
      | nil =>
        have := h4 c t (by simpa using h1.symm)
        simp [inK, c2] at this
      | cons d u' =>
        obtain ⟨rfl, _⟩ := List.cons.inj h1
        exact ⟨u', rfl⟩
    obtain ⟨u', rfl⟩ := hcu
    rw [h2] at hT
    by_cases h16 : 16 < (glf p (c :: t)).length - (glf (adv p (c :: u')) r).length
    · rw [if_pos h16] at hT; cases hT
    · rw [if_neg h16] at hT
      injection hT with e1 e2 e3
      subst e1 e3
      rw [glf_len, glf_len] at h16
      have hpe : plf (glf (adv p (c :: u')) r) (adv p (c :: t)) = adv p (c :: u') := by rw [h1, adv_append, plf_glf]
      rw [hpe, extract_encs s L (c :: u') r p hp (by rw [h, h1])] at e2
      refine ⟨c :: u', r, h1, rfl, ?_⟩
      rw [e2, h1]
      refine .name c u' r c2 h3 h4 ?_
      rw [h1, List.length_append] at h16
      omega
  · rw [if_neg c2] at hT
    by_cases c3 : gcls c = 3
    · rw [if_pos c3] at hT
      obtain ⟨n, ds, hn, hd, hT⟩ := hT
      obtain ⟨u, r, h1, h2, h3, h4⟩ := dropWhile_glf [3] p (c :: t)
      have hcu : ∃ u', u = c :: u' := by
        cases u with
        | nil =>
          have := h4 c t (by simpa using h1.symm)
          simp [inK, c3] at this
        | cons d u' =>
          obtain ⟨rfl, _⟩ := List.cons.inj h1
          exact ⟨u', rfl⟩
      obtain ⟨u', rfl⟩ := hcu
      have hpe : plf (glf (adv p (c :: u')) r) (adv p (c :: t)) = adv p (c :: u') := by rw [h1, adv_append, plf_glf]
      rw [h2, hpe, extract_encs s L (c :: u') r p hp (by rw [h, h1])] at hn hd
      rw [h2] at hT
      by_cases h32 : 32 < n
      · rw [if_pos h32] at hT; cases hT
      · rw [if_neg h32] at hT
        injection hT with e1 e2 e3
        subst e1 e3
        refine ⟨c :: u', r, h1, rfl, ?_⟩
        rw [e2, h1]
        exact .num c u' r n ds h3 h4 hn (by omega) hd
    · rw [if_neg c3] at hT
      by_cases c5 : gcls c = 5
      · rw [if_pos c5] at hT
        unfold signS at hT
        by_cases a1 : gfold c = 8788
        · rw [if_pos a1] at hT
          injection hT with e1 e2 e3
          subst e1 e2 e3
          have hc : c = 8788 := by
            unfold gfold at a1
            repeat' split at a1
            all_goals omega
          exact ⟨[c], t, rfl, rfl, .two c 58 t (.inl ⟨hc, rfl⟩)⟩
        rw [if_neg a1] at hT
        by_cases a2 : gfold c = 8800
        · rw [if_pos a2] at hT
          injection hT with e1 e2 e3
          subst e1 e2 e3
          have hc : c = 8800 := by
            unfold gfold at a2
            repeat' split at a2
            all_goals omega
          exact ⟨[c], t, rfl, rfl, .two c 33 t (.inr ⟨hc, rfl⟩)⟩
        rw [if_neg a2] at hT
        by_cases a3 : gfold c = 58 ∨ gfold c = 33
        · rw [if_pos a3] at hT
          cases t with
          | nil => cases hT
          | cons d t =>
            simp only [glf] at hT
            by_cases hd : d = 61
            · rw [if_pos hd] at hT
              injection hT with e1 e2 e3
              subst e1 e2 e3 hd
              have hc : c = 58 ∨ c = 33 := by
                rcases a3 with a | a
                · exact .inl (gfold_58.1 a)
                · exact .inr (gfold_33.1 a)
              have hg : gfold c = (c : Int) := by rcases hc with rfl | rfl <;> rfl
              rw [hg]
              exact ⟨[c, 61], t, rfl, rfl, .pair c t hc⟩
            · rw [if_neg hd] at hT; cases hT
        · rw [if_neg a3] at hT
          injection hT with e1 e2 e3
          subst e1 e2 e3
          refine ⟨[c], t, rfl, rfl, .sign c t c5 ⟨?_, ?_, ?_, ?_⟩⟩
          · rintro rfl; exact a1 rfl
          · rintro rfl; exact a2 rfl
          · rintro rfl; exact a3 (.inl rfl)
          · rintro rfl; exact a3 (.inr rfl)
      · rw [if_neg c5] at hT; cases hT
theorem tokC_R (s : ByteArray) (L : List UInt8) (cs : List Nat) (p : Pl) (hp : p.b = L.length) (h : s.data.toList = L ++ encs cs) (k : Int) (x : ByteArray) (r : List Nat) (hT : TokC cs k x r) :
    ∃ c t v, cs = c :: t ∧ cs = v ++ r ∧ TokR s (adv p cs) ⟨c, p⟩ (glf (p.past c (encL c).length) t) (.ok k x (glf (adv p v) r)) := by
  cases hT with
  | name c u _ hc hu hr hl =>
    refine ⟨c, u ++ r, c :: u, rfl, rfl, ?_⟩
    obtain ⟨u2, r2, h1, h2, h3, h4⟩ := dropWhile_glf [2, 3, 4] p (c :: u ++ r)
    obtain ⟨e1, e2⟩ := stop_one h1 hu h3 hr h4
    subst e1 e2
    have := tokR_name (s := s) (e := adv p (c :: u ++ r)) (g := ⟨c, p⟩) (r := glf (p.past c (encL c).length) (u ++ r)) hc
    have hgl : (⟨c, p⟩ : Gl) :: glf (p.past c (encL c).length) (u ++ r) = glf p (c :: u ++ r) := rfl
    rw [hgl, h2, if_neg (by rw [glf_len, glf_len, List.length_append]; omega)] at this
    have hpe : plf (glf (adv p (c :: u)) r) (adv p (c :: u ++ r)) = adv p (c :: u) := by rw [adv_append, plf_glf]
    rw [hpe] at this
    rw [← extract_encs s L (c :: u) r p hp h]
    exact this
  | num c u _ n ds hu hr hn hl hd =>
    refine ⟨c, u ++ r, c :: u, rfl, rfl, ?_⟩
    obtain ⟨u2, r2, h1, h2, h3, h4⟩ := dropWhile_glf [3] p (c :: u ++ r)
    obtain ⟨e1, e2⟩ := stop_one h1 hu h3 hr h4
    subst e1 e2
    have hpe : plf (glf (adv p (c :: u)) r) (adv p (c :: u ++ r)) = adv p (c :: u) := by rw [adv_append, plf_glf]
    have hgl : (⟨c, p⟩ : Gl) :: glf (p.past c (encL c).length) (u ++ r) = glf p (c :: u ++ r) := rfl
    have hc : gcls c = 3 := by have := hu c (by simp); simpa [inK] using this
    have := tokR_num (s := s) (e := adv p (c :: u ++ r)) (g := ⟨c, p⟩) (r := glf (p.past c (encL c).length) (u ++ r)) (n := n) (ds := ds) hc (by rw [hgl, h2, hpe, extract_encs s L (c :: u) r p hp h]; exact hn) (by rw [hgl, h2, hpe, extract_encs s L (c :: u) r p hp h]; exact hd)
    rw [hgl, h2, if_neg (by omega)] at this
    exact this
  | two c x _ hh =>
    refine ⟨c, r, [c], rfl, rfl, ?_⟩
    rcases hh with ⟨rfl, rfl⟩ | ⟨rfl, rfl⟩
    · exact tokR_sign (show gcls 8788 = 5 by decide)
    · exact tokR_sign (show gcls 8800 = 5 by decide)
  | pair c _ hh =>
    refine ⟨c, 61 :: r, [c, 61], rfl, rfl, ?_⟩
    rcases hh with rfl | rfl
    · exact tokR_sign (show gcls 58 = 5 by decide)
    · exact tokR_sign (show gcls 33 = 5 by decide)
  | sign c _ hc hh =>
    refine ⟨c, r, [c], rfl, rfl, ?_⟩
    have := tokR_sign (s := s) (e := adv p ([c] ++ r)) (g := ⟨c, p⟩) (r := glf (p.past c (encL c).length) r) hc
    have hf := gsign_cases hh.1 hh.2.1
    unfold signS at this
    simp only at this
    rw [if_neg hf.1, if_neg hf.2, if_neg (by rw [gfold_58, gfold_33]; omega)] at this
    exact this
theorem scanR_C (s : ByteArray) (cs : List Nat) (L : List UInt8) (p : Pl) (hp : p.b = L.length) (h : s.data.toList = L ++ encs cs) (l : List Tk) (hR : ScanR s (adv p cs) (glf p cs) (.ok l)) : ScanC cs (l.map fun t => (t.kind, t.text)) := by
  generalize hg : glf p cs = gs at hR
  generalize he : adv p cs = e at hR
  generalize ho : SO.ok l = o at hR
  induction hR generalizing cs L p l with
  | done r h1 hb =>
    cases ho
    subst hg
    obtain ⟨a, h2, h3⟩ := skp_glf false p cs
    rw [h1] at h3
    refine .done cs ?_
    cases hx : skc false cs with
    | nil => rfl
    | cons c t => rw [hx] at h3; cases h3
  | rune r h1 hb => cases ho
  | bad r g t k h1 ht => cases ho
  | tok r g t kind text rest o h1 ht hr ih =>
    subst hg he
    cases o with
    | bad k p => cases ho
    | ok l' =>
      simp only [SO.pre, SO.ok.injEq] at ho
      subst ho
      obtain ⟨a, h2, h3⟩ := skp_glf false p cs
      rw [h1] at h3
      cases hx : skc false cs with
      | nil => rw [hx] at h3; cases h3
      | cons c t' =>
        rw [hx] at h3 h2
        simp only [glf] at h3
        obtain ⟨rfl, rfl⟩ := List.cons.inj h3
        have hpa : (adv p a).b = (L ++ encs a).length := by rw [adv_b, hp, List.length_append]
        have hsa : s.data.toList = (L ++ encs a) ++ encs (c :: t') := by rw [h, List.append_assoc, ← encs_append, ← h2]
        have hea : adv p cs = adv (adv p a) (c :: t') := by rw [← adv_append, ← h2]
        rw [hea] at ht
        obtain ⟨v, r, h4, rfl, h6⟩ := tokR_C s _ c t' _ hpa hsa _ _ _ ht
        refine .tok cs _ _ r _ (by rw [hx]; exact h6) ?_
        exact ih r ((L ++ encs a) ++ encs v) (adv (adv p a) v) (by rw [adv_b, hpa, ← List.length_append]) (by rw [hsa, h4, encs_append, List.append_assoc, List.append_assoc, List.append_assoc]) l' rfl (by rw [hea, h4, adv_append]) rfl
theorem scanC_R (s : ByteArray) (cs : List Nat) (ts : List (Int × ByteArray)) (hC : ScanC cs ts) (L : List UInt8) (p : Pl) (hp : p.b = L.length) (h : s.data.toList = L ++ encs cs) : ∃ l, ScanR s (adv p cs) (glf p cs) (.ok l) ∧ (l.map fun t => (t.kind, t.text)) = ts := by
  induction hC generalizing L p with
  | done r h1 =>
    obtain ⟨a, h2, h3⟩ := skp_glf false p r
    rw [h1] at h3
    refine ⟨[⟨0, ⟨#[]⟩, adv p r⟩], .done _ h3 ?_, rfl⟩
    have : s.data.toList.length = s.size := rfl
    rw [adv_b, hp, ← this, h, List.length_append]
    exact Nat.le_refl _
  | tok r k x rest ts h1 hr ih =>
    obtain ⟨a, h2, h3⟩ := skp_glf false p r
    have hpa : (adv p a).b = (L ++ encs a).length := by rw [adv_b, hp, List.length_append]
    have hsa : s.data.toList = (L ++ encs a) ++ encs (skc false r) := by rw [h, List.append_assoc, ← encs_append, ← h2]
    have hea : adv p r = adv (adv p a) (skc false r) := by rw [← adv_append, ← h2]
    obtain ⟨c, t, v, h4, h5, h6⟩ := tokC_R s _ (skc false r) _ hpa hsa _ _ _ h1
    obtain ⟨l, h7, h8⟩ := ih ((L ++ encs a) ++ encs v) (adv (adv p a) v) (by rw [adv_b, hpa, ← List.length_append]) (by rw [hsa, h5, encs_append, List.append_assoc, List.append_assoc, List.append_assoc])
    refine ⟨⟨k, x, adv p a⟩ :: l, ?_, by simp [h8]⟩
    have h9 : skp false (glf p r) = ⟨c, adv p a⟩ :: glf ((adv p a).past c (encL c).length) t := by rw [h3, h4]; rfl
    rw [← hea] at h6
    have := ScanR.tok (s := s) (e := adv p r) (glf p r) ⟨c, adv p a⟩ (glf ((adv p a).past c (encL c).length) t) k x (glf (adv (adv p a) v) rest) (.ok l) h9 h6 (by rw [hea, h5, adv_append]; exact h7)
    exact this
end Lm
end Go.Proofs.YtgfglefgpgckiaaDoor

namespace Go.Proofs.YtgfglefgpgckiaaDoor
namespace Lm
open Go Go.RowKit
theorem stop_blank {ks : List Int} {b : Nat} {r : List Nat} (h : gcls b = 1) (hk : (1 : Int) ∉ ks) : Stop ks (b :: r) := by
  intro c t e
  obtain ⟨rfl, _⟩ := List.cons.inj e
  simp [inK, h, hk]
theorem encs_ascii (u : List Nat) (h : ∀ c ∈ u, c < 128) : encs u = u.map Nat.toUInt8 := by
  induction u with
  | nil => rfl
  | cons c u ih =>
    rw [encs, ih (fun d hd => h d (by simp [hd]))]
    unfold encL
    rw [if_pos (h c (by simp))]
    rfl
theorem bts_nums (ds : List Int) (h : ∀ d ∈ ds, 0 ≤ d ∧ d < 128) : strOfNums ds = bts (encs (ds.map Int.toNat)) := by
  rw [encs_ascii _ (by intro c hc; obtain ⟨d, hd, rfl⟩ := List.mem_map.1 hc; have := h d hd; omega)]
  unfold strOfNums bts
  congr 2
  rw [List.map_map]
  rfl
theorem bytesOf_bts (ds : List Int) (h : ∀ d ∈ ds, 0 ≤ d ∧ d < 128) : bytesOf (bts (encs (ds.map Int.toNat))) = ds := by
  rw [encs_ascii _ (by intro c hc; obtain ⟨d, hd, rfl⟩ := List.mem_map.1 hc; have := h d hd; omega)]
  unfold bytesOf bts
  rw [List.map_map]
  simp only [List.map_map]
  conv => rhs; rw [← List.map_id ds]
  apply List.map_congr_left
  intro d hd
  have := h d hd
  simp only [Function.comp_apply, id]
  rw [Nat.toUInt8, UInt8.toNat_ofNat']
  omega
theorem cod_ascii {c : Nat} (h : c < 128) : Cod c := ⟨by omega, .inl (by omega)⟩
theorem gcls_digit_of {c : Nat} (h : 48 ≤ c ∧ c ≤ 57) : gcls (c : Int) = 3 := by
  unfold gcls
  rw [if_neg (by omega), if_neg (by unfold glatin ggreek gcyr; omega), if_pos (by omega)]
theorem gcls_not {c : Nat} {k : Int} (h : gcls (c : Int) = k) (h6 : k ≠ 6) (h1 : k ≠ 1) (t : List Nat) : skc false (c :: t) = c :: t := by
  rw [skc, if_neg (by omega), if_neg (by omega)]
theorem TokC.skc {cs : List Nat} {k : Int} {x : ByteArray} {r : List Nat} (h : TokC cs k x r) : skc false cs = cs := by
  cases h with
  | name c u _ h2 hu hr hl => exact gcls_not h2 (by decide) (by decide) _
  | num c u _ n ds hu hr hn hl hd =>
    have h3 : gcls (c : Int) = 3 := by have := hu c (by simp); simpa [inK] using this
    exact gcls_not h3 (by decide) (by decide) _
  | two c x _ hh =>
    rcases hh with ⟨rfl, rfl⟩ | ⟨rfl, rfl⟩
    · exact gcls_not (c := 8788) (k := 5) (by decide) (by decide) (by decide) _
    · exact gcls_not (c := 8800) (k := 5) (by decide) (by decide) (by decide) _
  | pair c _ hh =>
    rcases hh with rfl | rfl
    · exact gcls_not (c := 58) (k := 5) (by decide) (by decide) (by decide) _
    · exact gcls_not (c := 33) (k := 5) (by decide) (by decide) (by decide) _
  | sign c _ h5 hh => exact gcls_not h5 (by decide) (by decide) _
theorem skc_blank {b : Nat} (h : gcls (b : Int) = 1) (r : List Nat) : skc false (b :: r) = skc false r := by
  rw [skc, if_neg (by omega), if_pos h]
end Lm
end Go.Proofs.YtgfglefgpgckiaaDoor

namespace Go.Proofs.YtgfglefgpgckiaaDoor
namespace Lm
open Go Go.RowKit
theorem decN_back {n b0 b1 b2 b3 : Nat} (_h0 : b0 < 256) (_h1 : b1 < 256) (_h2 : b2 < 256) (_h3 : b3 < 256) {c k : Nat} (h : Lib.decodeN n b0 b1 b2 b3 = (c, k)) (hv : (c, k) ≠ (65533, 1)) :
    (k = 1 ∧ c = b0 ∧ c < 128) ∨ (k = 2 ∧ 128 ≤ c ∧ c < 2048 ∧ b0 = 192 + c / 64 ∧ b1 = 128 + c % 64) ∨
    (k = 3 ∧ 2048 ≤ c ∧ c < 65536 ∧ b0 = 224 + c / 4096 ∧ b1 = 128 + c / 64 % 64 ∧ b2 = 128 + c % 64) ∨
    (k = 4 ∧ 65536 ≤ c ∧ c ≤ 1114111 ∧ b0 = 240 + c / 262144 ∧ b1 = 128 + c / 4096 % 64 ∧ b2 = 128 + c / 64 % 64 ∧ b3 = 128 + c % 64) := by
  unfold Lib.decodeN at h
  repeat' split at h
  all_goals try exact absurd h.symm hv
  all_goals (simp only [Prod.mk.injEq] at h; obtain ⟨rfl, rfl⟩ := h)
  · exact .inl (by omega)
  · exact .inr (.inl (by omega))
  · exact .inr (.inr (.inl (by omega)))
  · exact .inr (.inr (.inr (by omega)))
theorem ext_one (s : ByteArray) (i : Nat) (h : i < s.size) (k : Nat) (hk : i + (k + 1) ≤ s.size) : (s.extract i (i + (k + 1))).data.toList = s.get! i :: (s.extract (i + 1) (i + 1 + k)).data.toList := by
  have hl : i < s.data.toList.length := h
  rw [ByteArray.data_extract, ByteArray.data_extract, Array.toList_extract, Array.toList_extract, List.extract_eq_take_drop, List.extract_eq_take_drop, List.drop_eq_getElem_cons hl, show i + (k + 1) - i = k + 1 from by omega, show i + 1 + k - (i + 1) = k from by omega, List.take_succ_cons]
  congr 1
  cases s with
  | mk d => exact (getElem!_pos d i h).symm
theorem ext_nil (s : ByteArray) (i : Nat) : (s.extract i (i + 0)).data.toList = [] := by
  rw [ByteArray.data_extract]; simp
theorem ba_ext {s : ByteArray} {l : List UInt8} (h : s.data.toList = l) : s = ⟨l.toArray⟩ := by
  cases s with
  | mk d => subst h; simp
end Lm
end Go.Proofs.YtgfglefgpgckiaaDoor

namespace Go.Proofs.YtgfglefgpgckiaaDoor
namespace Lm
open Go Go.RowKit
theorem decN_cod {n b0 b1 b2 b3 : Nat} (h0 : b0 < 256) {c k : Nat} (h : Lib.decodeN n b0 b1 b2 b3 = (c, k)) (hv : (c, k) ≠ (65533, 1)) : Cod c := by
  unfold Lib.decodeN at h
  repeat' split at h
  all_goals try exact absurd h.symm hv
  all_goals (simp only [Prod.mk.injEq] at h; obtain ⟨rfl, rfl⟩ := h)
  all_goals (unfold Cod; omega)
theorem u8_of {u : UInt8} {n : Nat} (h : u.toNat = n) : u = n.toUInt8 := by
  subst h
  exact UInt8.toNat_inj.1 (by rw [Nat.toUInt8, UInt8.toNat_ofNat']; have := UInt8.toNat_lt u; omega)
theorem dec_bytes (s : ByteArray) (i : Nat) (h : i < s.size) (hv : Utf8.decode s i ≠ (65533, 1)) : Cod (Utf8.decode s i).1 ∧ (s.extract i (i + (Utf8.decode s i).2)).data.toList = encL (Utf8.decode s i).1 ∧ (Utf8.decode s i).2 = (encL (Utf8.decode s i).1).length := by
  have hl := dec_le s i h
  obtain ⟨c, k, e⟩ : ∃ c k, Utf8.decode s i = (c, k) := ⟨_, _, rfl⟩
  rw [e] at hv hl ⊢
  rw [Lib.decode_at] at e
  simp only at hl ⊢
  refine ⟨decN_cod (UInt8.toNat_lt _) e hv, ?_⟩
  rcases decN_back (UInt8.toNat_lt _) (UInt8.toNat_lt _) (UInt8.toNat_lt _) (UInt8.toNat_lt _) e hv with ⟨rfl, h1, h2⟩ | ⟨rfl, h1, h2, h3, h4⟩ | ⟨rfl, h1, h2, h3, h4, h5⟩ | ⟨rfl, h1, h2, h3, h4, h5, h6⟩
  · unfold encL
    rw [if_pos h2, ext_one s i h 0 (by omega), ext_nil, u8_of h1.symm]
    exact ⟨rfl, rfl⟩
  · unfold encL
    rw [if_neg (by omega), if_pos h2, ext_one s i h 1 (by omega), ext_one s (i + 1) (by omega) 0 (by omega), ext_nil, u8_of h3, u8_of h4]
    exact ⟨rfl, rfl⟩
  · unfold encL
    rw [if_neg (by omega), if_neg (by omega), if_pos h2, ext_one s i h 2 (by omega), ext_one s (i + 1) (by omega) 1 (by omega), ext_one s (i + 1 + 1) (by omega) 0 (by omega), ext_nil, u8_of h3, u8_of h4, u8_of h5]
    exact ⟨rfl, rfl⟩
  · unfold encL
    rw [if_neg (by omega), if_neg (by omega), if_neg (by omega), ext_one s i h 3 (by omega), ext_one s (i + 1) (by omega) 2 (by omega), ext_one s (i + 1 + 1) (by omega) 1 (by omega), ext_one s (i + 1 + 1 + 1) (by omega) 0 (by omega), ext_nil, u8_of h3, u8_of h4, u8_of h5, u8_of h6]
    exact ⟨rfl, rfl⟩
theorem snd_codes {s : ByteArray} {p e : Pl} {gs : List Gl} (h : Snd s p gs e) (he : s.size ≤ e.b) (hb : p.b ≤ s.size) : ∃ cs, gs = glf p cs ∧ e = adv p cs ∧ (∀ c ∈ cs, Cod c) ∧ (s.data.toList.drop p.b) = encs cs := by
  induction h with
  | stop p h =>
    refine ⟨[], rfl, rfl, by simp, ?_⟩
    rw [List.drop_eq_nil_of_le (by show s.data.toList.length ≤ p.b; exact he)]
    rfl
  | go p gs e h1 h2 hr ih =>
    have hd := dec_le s p.b h1
    obtain ⟨k1, k2, k3⟩ := dec_bytes s p.b h1 h2
    obtain ⟨cs, i1, i2, i3, i4⟩ := ih he (by simp only [Pl.past]; omega)
    rw [k3] at i1 i2
    refine ⟨(Utf8.decode s p.b).1 :: cs, by rw [i1]; rfl, by rw [i2]; rfl, ?_, ?_⟩
    · intro c hc
      rcases List.mem_cons.1 hc with rfl | hc
      · exact k1
      · exact i3 c hc
    · rw [encs, ← i4, ← k2, ByteArray.data_extract, Array.toList_extract, List.extract_eq_take_drop, show p.b + (Utf8.decode s p.b).2 - p.b = (Utf8.decode s p.b).2 from by omega]
      simp only [Pl.past]
      rw [← List.drop_drop, List.take_append_drop]
theorem scanR_end {s : ByteArray} {e : Pl} {gs : List Gl} {l : List Tk} (h : ScanR s e gs (.ok l)) : s.size ≤ e.b := by
  generalize ho : SO.ok l = o at h
  induction h generalizing l with
  | done r h hb => exact hb
  | rune r h hb => cases ho
  | bad r g t k h ht => cases ho
  | tok r g t kind text rest o h ht hr ih =>
    cases o with
    | bad k p => cases ho
    | ok l' => exact ih rfl
theorem tokR_bad {s : ByteArray} {e : Pl} {g : Gl} {r : List Gl} {k : Int} (h : TokR s e g r (.bad k)) : k = 42 ∨ k = 2 ∨ k = 41 := by
  unfold TokR at h
  split at h
  · split at h
    · injection h with h; exact .inl h
    · cases h
  · split at h
    · obtain ⟨n, ds, _, _, h⟩ := h
      split at h
      · injection h with h; exact .inr (.inl h)
      · cases h
    · split at h
      · unfold signS at h
        split at h
        · cases h
        · split at h
          · cases h
          · split at h
            · split at h
              · injection h with h; exact .inr (.inr h)
              · split at h
                · cases h
                · injection h with h; exact .inr (.inr h)
            · cases h
      · injection h with h; exact .inr (.inr h)
theorem scanR_bad {s : ByteArray} {e : Pl} {gs : List Gl} {k : Int} {p : Pl} (h : ScanR s e gs (.bad k p)) : k ≠ 0 := by
  generalize ho : SO.bad k p = o at h
  induction h with
  | done r h hb => cases ho
  | rune r h hb => injection ho with e1 _; omega
  | bad r g t k' h ht =>
    injection ho with e1 _
    subst e1
    rcases tokR_bad ht with h | h | h <;> omega
  | tok r g t kind text rest o h ht hr ih =>
    cases o with
    | bad k' p' => exact ih ho
    | ok l' => cases ho
theorem scan_cs (w : World) (hT : Tabs w) (cs : List Nat) (hc : ∀ c ∈ cs, Cod c) (ts : List (Int × ByteArray)) (hC : ScanC cs ts) (hs : (encs cs).length ≤ 4096) :
    Calls Tryd.prog 11 #[.string (bts (encs cs))] w fun r w' => Below w.heap.size w w' ∧ ∃ l v, l.map kx = ts ∧ r = .returned (.tuple #[v, .int .i64 0, plz.v]) ∧ w'.ownsRow w.heap.size 35 6 v l.length (tflat l) := by
  refine (scan_any w _ hT).mono ?_
  have hd : (bts (encs cs)).data.toList = encs cs := by simp [bts]
  have hz : (bts (encs cs)).size = (encs cs).length := by rw [← hd]; rfl
  have hS := snd_encs (bts (encs cs)) cs hc [] [] pl0 rfl (by rw [hd]; simp) (.inl rfl)
  obtain ⟨l, hR, hl⟩ := scanC_R (bts (encs cs)) cs ts hC [] pl0 rfl (by rw [hd]; rfl)
  rintro r w' ⟨hb, ⟨h, rfl⟩ | ⟨_, gs, e, o, h1, h2, h3⟩⟩
  · omega
  · obtain ⟨rfl, rfl⟩ := h1.one hS
    obtain rfl := h2.one hR
    obtain ⟨v, h4, h5⟩ := h3
    exact ⟨hb, l, v, hl, h4, h5⟩
theorem isDec_short {ds : List Int} {v : Int} {n : Nat} (hd : IsDec ds v) (hn : IsLen v n) (h : n ≤ 32) : ds.length ≤ 400 := by
  obtain ⟨h1, h2, h3⟩ := hd
  obtain ⟨rs, hc, hv, rfl⟩ := hn
  rcases h3 with ⟨_, rfl⟩ | ⟨c, cs, rfl, hc0⟩
  · simp
  · have hcd := (dig_cons.1 h1).1
    have hb := dval_bounds (dig_cons.1 h1).2
    have hlow : p10 cs.length ≤ v := by
      rw [← h2, dval]
      have : p10 cs.length * 1 ≤ (c - 48) * p10 cs.length := by
        rw [Int.mul_comm]
        exact Int.mul_le_mul_of_nonneg_right (by omega) (by have := p10_mono (m := 0) (n := cs.length) (Nat.zero_le _); simp [p10] at this; omega)
      omega
    have hup : v < pw rs.length := by rw [← hv]; exact (val_bounds hc.1).2
    have hpw : pw rs.length ≤ pw 32 := pw_mono h
    have hk : pw 32 ≤ p10 320 := pw_le_p10 32
    by_cases hx : 320 ≤ cs.length
    · have := p10_mono hx
      omega
    · simp; omega
theorem encs_len (u : List Nat) : (encs u).length ≤ 4 * u.length := by
  induction u with
  | nil => simp [encs]
  | cons c u ih =>
    have := encL_pos c
    simp only [encs, List.length_append, List.length_cons]
    omega
end Lm
end Go.Proofs.YtgfglefgpgckiaaDoor

namespace Go.Proofs.YtgfglefgpgckiaaDoor
namespace Lm
open Go Go.RowKit
theorem sameplace_eq (w : World) (p : Pl) :
    Calls Tryd.prog 13 #[p.v, p.v] w fun r w' => r = .returned (.bool true) ∧ Below w.heap.size w w' := by
  unfold Pl.v
  go_enter Tryd.func13, Tryd.ntmps13
  go_wp2
  go_ret
  exact ⟨rfl, below_two _ _ _⟩
end Lm
end Go.Proofs.YtgfglefgpgckiaaDoor

namespace Go.Proofs.YtgfglefgpgckiaaDoor
namespace Lm
open Go Go.RowKit
def nmS (s : ByteArray) : SO → Bool
  | .ok (t :: _) => (t.kind == 1) && (t.text.toList == s.toList)
  | _ => false
theorem encs_nil {u : List Nat} (h : encs u = []) : u = [] := by
  cases u with
  | nil => rfl
  | cons c u =>
    have h1 := encL_pos c
    have h2 := congrArg List.length h
    simp only [encs, List.length_append, List.length_nil] at h2
    omega
theorem name_two {s : ByteArray} {gs : List Gl} {e : Pl} {l : List Tk} (hQ : Snd s pl0 gs e) (hR : ScanR s e gs (.ok l)) : ∃ t r, l = t :: r ∧ (t.kind = 1 → t.text = s → l.length = 2) := by
  obtain ⟨cs, rfl, rfl, hc, hb⟩ := snd_codes hQ (scanR_end hR) (Nat.zero_le _)
  have hsb : s.data.toList = [] ++ encs cs := by simpa [pl0] using hb
  have hC := scanR_C s cs [] pl0 rfl hsb l hR
  generalize hm : (l.map fun t => (t.kind, t.text)) = ts at hC
  cases hC with
  | done _ h1 =>
    cases l with
    | nil => simp at hm
    | cons t r =>
      refine ⟨t, r, rfl, fun hk _ => ?_⟩
      simp only [List.map_cons, List.cons.injEq, Prod.mk.injEq] at hm
      omega
  | tok _ k x rest ts' h1 h2 =>
    cases l with
    | nil => simp at hm
    | cons t r =>
      refine ⟨t, r, rfl, fun hk hx => ?_⟩
      simp only [List.map_cons, List.cons.injEq, Prod.mk.injEq] at hm
      obtain ⟨⟨e1, e2⟩, e3⟩ := hm
      obtain ⟨a, hsp, _⟩ := skp_glf false pl0 cs
      have hk1 : k = 1 := by omega
      have hxs : x = s := by rw [← e2, hx]
      clear e1 e2 hk hx
      subst hk1
      generalize hq : skc false cs = q at h1 hsp
      cases h1 with
      | name c u _ hc2 hu hr hl =>
        have h3 := congrArg (fun b => b.data.toList) hxs
        rw [hsb, hsp, encs_append, encs_append] at h3
        simp only [bts, List.nil_append] at h3
        have h4 := congrArg List.length h3
        simp only [List.length_append] at h4
        have h5 : encs rest = [] := List.eq_nil_of_length_eq_zero (by omega)
        have h6 := encs_nil h5
        subst h6
        cases h2 with
        | done _ _ =>
          have := congrArg List.length e3
          simpa using this
        | tok _ _ _ _ _ h7 _ =>
          exfalso
          generalize hz : skc false [] = z at h7
          have : z = [] := by rw [← hz]; rfl
          subst this
          generalize hy : ([] : List Nat) = y at h7
          cases h7 <;> simp at hy
set_option maxRecDepth 20000 in
set_option maxHeartbeats 2000000 in
theorem name_prog (w : World) (hT : Tabs w) (s : ByteArray) (hs : s.size ≤ 4096) (gs : List Gl) (e : Pl) (hQ : Snd s pl0 gs e) :
    Calls Tryd.prog 15 #[.string s] w fun r w' => Below w.heap.size w w' ∧ ∃ o, ScanR s e gs o ∧ r = .returned (.bool (nmS s o)) := by
  have HT := hide hT
  have HQ := hide hQ
  clear hT hQ
  go_enter Tryd.func15, Tryd.ntmps15
  go_wp2_with fail
  refine (scan_short w s HT.out hs).mono ?_
  rintro r w1 ⟨hb1, gs', e', o, h1, h2, h3⟩
  obtain ⟨rfl, rfl⟩ := h1.one HQ.out
  have HB := hide (hb1.alloc hb1.size (.cells #[.int .i64 0, .int .i64 0, .int .i64 0, .int .i64 0] 25))
  have HBr := hide hb1
  have HR := hide h2
  clear hb1 h1
  cases o with
  | bad k p =>
    have hk : (k == 0) = false := beq_eq_false_iff_ne.2 (scanR_bad h2)
    obtain rfl := h3
    clear h2
    unfold Pl.v
    go_wp2
    go_ret
    exact ⟨HBr.out.alloc HBr.out.size _, _, HR.out, rfl⟩
  | ok l =>
    obtain ⟨v, rfl, hown⟩ := h3
    have hTs : Ts w1 v l := Ts.own hown
    obtain ⟨t, rr, rfl, _⟩ := name_two HQ.out h2
    obtain ⟨ao, cap, rfl, hn⟩ := hTs.parts
    obtain ⟨b, off, rfl, g⟩ := hTs.tok (i := 0) (t := t) rfl
    obtain ⟨_, a0, a1, _, _, _, _⟩ := g.below ((Below.refl _ _).alloc (Nat.le_refl _) (.cells #[.int .i64 0, .int .i64 0, .int .i64 0, .int .i64 0] 25))
    rw [Nat.zero_mul, Nat.add_zero] at a0 a1
    have hln : (0 : Int) < ((t :: rr).length : Int) := by simp
    clear g hown h2 hTs
    generalize (t :: rr).length = n at hn hln ⊢
    unfold Pl.v
    simp only [plz]
    by_cases hk : t.kind = 1
    · have hk' : (t.kind == 1) = true := by rw [hk]; rfl
      go_wp2
      go_ret
      exact ⟨HB.out, _, HR.out, by simp only [nmS, hk', Bool.true_and]; rfl⟩
    · have hk' : (t.kind == 1) = false := beq_eq_false_iff_ne.2 hk
      go_wp2
      go_ret
      exact ⟨HB.out, _, HR.out, by simp only [nmS, hk', Bool.false_and]; rfl⟩
end Lm
end Go.Proofs.YtgfglefgpgckiaaDoor

namespace Go.Proofs.YtgfglefgpgckiaaDoor
namespace Lm
open Go Go.RowKit
theorem bts_append (a b : List UInt8) : bts a ++ bts b = bts (a ++ b) := by
  have h : (bts a ++ bts b).data.toList = a ++ b := by simp [bts]
  exact ba_ext h
theorem bts_size (a : List UInt8) : (bts a).size = a.length := by
  show a.toArray.size = _
  simp
end Lm
end Go.Proofs.YtgfglefgpgckiaaDoor

namespace Go.Proofs.YtgfglefgpgckiaaDoor
namespace Lm
open Go Go.RowKit
structure NmC (cs : List Nat) : Prop where
  all : ∀ c ∈ cs, inK [2, 3, 4] c = true
  cod : ∀ c ∈ cs, Cod c
  head : ∃ c t, cs = c :: t ∧ gcls (c : Int) = 2
theorem NmC.snoc {cs : List Nat} (h : NmC cs) (d : Nat) (h1 : inK [2, 3, 4] d = true) (h2 : Cod d) : NmC (cs ++ [d]) := by
  refine ⟨?_, ?_, ?_⟩
  · intro c hc
    rcases List.mem_append.1 hc with hc | hc
    · exact h.all c hc
    · simp at hc; subst hc; exact h1
  · intro c hc
    rcases List.mem_append.1 hc with hc | hc
    · exact h.cod c hc
    · simp at hc; subst hc; exact h2
  · obtain ⟨c, t, rfl, hc⟩ := h.head
    exact ⟨c, t ++ [d], rfl, hc⟩
theorem NmC.scan {cs : List Nat} (h : NmC cs) (hl : cs.length ≤ 16) : ScanC cs [(1, bts (encs cs)), (0, ⟨#[]⟩)] := by
  obtain ⟨c, t, rfl, hc⟩ := h.head
  have hT := TokC.name c t [] hc h.all (by intro d r hd; cases hd) hl
  rw [List.append_nil] at hT
  exact .tok _ _ _ [] _ (by rw [hT.skc]; exact hT) (.done _ rfl)
theorem snd_bts (cs : List Nat) (hc : ∀ c ∈ cs, Cod c) : Snd (bts (encs cs)) pl0 (glf pl0 cs) (adv pl0 cs) := by
  have hd : (bts (encs cs)).data.toList = encs cs := by simp [bts]
  exact snd_encs (bts (encs cs)) cs hc [] [] pl0 rfl (by rw [hd]; simp) (.inl rfl)
theorem NmC.long {cs : List Nat} (h : NmC cs) (hl : 16 < cs.length) (a : List Nat) (ha : ∀ r, skc false (a ++ r) = skc false r) : ScanR (bts (encs (a ++ cs))) (adv pl0 (a ++ cs)) (glf pl0 (a ++ cs)) (.bad 42 (adv pl0 a)) := by
  obtain ⟨c, t, rfl, hc⟩ := h.head
  have hself : skc false (c :: t) = c :: t := gcls_not hc (by decide) (by decide) t
  obtain ⟨a', h1, h2⟩ := skp_glf false pl0 (a ++ (c :: t))
  rw [ha, hself] at h1 h2
  obtain rfl := List.append_cancel_right h1
  refine ScanR.bad _ ⟨c, adv pl0 a⟩ (glf ((adv pl0 a).past c (encL c).length) t) 42 (by rw [h2]; rfl) ?_
  have hT := tokR_name (s := bts (encs (a ++ (c :: t)))) (e := adv pl0 (a ++ (c :: t))) (g := ⟨c, adv pl0 a⟩) (r := glf ((adv pl0 a).past c (encL c).length) t) hc
  have hgl : (⟨c, adv pl0 a⟩ : Gl) :: glf ((adv pl0 a).past c (encL c).length) t = glf (adv pl0 a) (c :: t) := rfl
  obtain ⟨u, r, h3, h4, h5, h6⟩ := dropWhile_glf [2, 3, 4] (adv pl0 a) (c :: t)
  have hr : r = [] := by
    cases r with
    | nil => rfl
    | cons d r =>
      exfalso
      have h7 := h6 d r rfl
      rw [h.all d (by rw [h3]; simp)] at h7
      cases h7
  subst hr
  rw [hgl, h4, if_pos (by rw [glf_len, glf_len, List.length_nil]; omega)] at hT
  exact hT
theorem scan_known (w : World) (hT : Tabs w) (cs : List Nat) (hc : ∀ c ∈ cs, Cod c) (o : SO) (hR : ScanR (bts (encs cs)) (adv pl0 cs) (glf pl0 cs) o) (hs : (encs cs).length ≤ 4096) :
    Calls Tryd.prog 11 #[.string (bts (encs cs))] w fun r w' => Below w.heap.size w w' ∧ ScanO w w' r o := by
  refine (scan_short w _ hT (by rw [bts_size]; exact hs)).mono ?_
  rintro r w' ⟨hb, gs, e, o2, h1, h2, h3⟩
  obtain ⟨rfl, rfl⟩ := h1.one (snd_bts cs hc)
  obtain rfl := h2.one hR
  exact ⟨hb, h3⟩
theorem name_yes (w : World) (hT : Tabs w) (cs : List Nat) (h : NmC cs) (hl : cs.length ≤ 16) :
    Calls Tryd.prog 15 #[.string (bts (encs cs))] w fun r w' => Below w.heap.size w w' ∧ r = .returned (.bool true) := by
  have hz : (encs cs).length ≤ 4096 := by have := encs_len cs; omega
  refine (name_prog w hT _ (by rw [bts_size]; exact hz) _ _ (snd_bts cs h.cod)).mono ?_
  rintro r w' ⟨hb, o, hR, rfl⟩
  obtain ⟨l, hR2, hl2⟩ := scanC_R (bts (encs cs)) cs _ (h.scan hl) [] pl0 rfl (by simp [bts])
  obtain rfl := hR.one hR2
  refine ⟨hb, ?_⟩
  cases l with
  | nil => simp at hl2
  | cons t r =>
    simp only [List.map_cons, List.cons.injEq, Prod.mk.injEq] at hl2
    simp only [nmS, hl2.1.1, hl2.1.2]
    simp
theorem name_no (w : World) (hT : Tabs w) (cs : List Nat) (h : NmC cs) (hl : 16 < cs.length) (hl2 : cs.length ≤ 17) :
    Calls Tryd.prog 15 #[.string (bts (encs cs))] w fun r w' => Below w.heap.size w w' ∧ r = .returned (.bool false) := by
  have hz : (encs cs).length ≤ 4096 := by have := encs_len cs; omega
  refine (name_prog w hT _ (by rw [bts_size]; exact hz) _ _ (snd_bts cs h.cod)).mono ?_
  rintro r w' ⟨hb, o, hR, rfl⟩
  have := h.long hl [] (fun r => rfl)
  rw [List.nil_append] at this
  obtain rfl := hR.one this
  exact ⟨hb, rfl⟩
theorem val_tops (n : Nat) : val (List.replicate n 4294967295) = pw n - 1 := by
  induction n with
  | zero => rfl
  | succ n ih => rw [List.replicate_succ, val, ih, pw]; omega
theorem canon_top (n : Nat) : Canon (List.replicate n 4294967295) := by
  refine ⟨?_, ?_⟩
  · intro z hz
    have := (List.mem_replicate.1 hz).2
    omega
  · induction n with
    | zero => rfl
    | succ n ih =>
      rw [List.replicate_succ, tl, ih]
      cases n with
      | zero => rfl
      | succ n => simp
theorem isLen_top : IsLen (pw 32 - 1) 32 := ⟨_, canon_top 32, val_tops 32, by simp⟩
theorem isLen_next {n : Nat} (h : IsLen (pw 32) n) : 32 < n := by
  obtain ⟨rs, hc, hv, rfl⟩ := h
  have h1 := (val_bounds hc.1).2
  rw [hv] at h1
  apply Classical.byContradiction
  intro hn
  have := pw_mono (show rs.length ≤ 32 by omega)
  omega
theorem dig_codes {ds : List Int} (h : Dig ds) : (∀ c ∈ ds.map Int.toNat, inK [3] c = true) ∧ (∀ c ∈ ds.map Int.toNat, Cod c) := by
  constructor
  · intro c hc
    obtain ⟨d, hd, rfl⟩ := List.mem_map.1 hc
    have := h d hd
    simp only [inK, gcls_digit_of (show 48 ≤ d.toNat ∧ d.toNat ≤ 57 by omega)]
    decide
  · intro c hc
    obtain ⟨d, hd, rfl⟩ := List.mem_map.1 hc
    have := h d hd
    exact cod_ascii (by omega)
theorem dig_range {ds : List Int} (h : Dig ds) : ∀ d ∈ ds, 0 ≤ d ∧ d < 128 := fun d hd => by have := h d hd; omega
theorem scan_top {ds : List Int} (hd : IsDec ds (pw 32 - 1)) : (⟨#[48, 48]⟩ : ByteArray) ++ strOfNums ds = bts (encs (((48 : Int) :: 48 :: ds).map Int.toNat)) ∧ (∀ c ∈ ((48 : Int) :: 48 :: ds).map Int.toNat, Cod c) ∧ ScanC (((48 : Int) :: 48 :: ds).map Int.toNat) [(2, strOfNums ds), (0, ⟨#[]⟩)] := by
  have hD : Dig ((48 : Int) :: 48 :: ds) := dig_cons.2 ⟨by omega, dig_cons.2 ⟨by omega, hd.1⟩⟩
  have hv : dval ((48 : Int) :: 48 :: ds) = pw 32 - 1 := by
    rw [dval, dval, hd.2.1]; simp
  have hb := bytesOf_bts _ (dig_range hD)
  refine ⟨?_, (dig_codes hD).2, ?_⟩
  · rw [bts_nums ds (dig_range hd.1), show (⟨#[48, 48]⟩ : ByteArray) = bts (encs [48, 48]) from rfl, bts_append, ← encs_append]
    rfl
  · have hT := TokC.num 48 (((48 : Int) :: ds).map Int.toNat) [] 32 ds (dig_codes hD).1 (by intro d r hd; cases hd) (by
      rw [show (48 : Nat) :: ((48 : Int) :: ds).map Int.toNat = ((48 : Int) :: 48 :: ds).map Int.toNat from rfl, hb, hv]
      exact isLen_top) (Nat.le_refl _) (by
      rw [show (48 : Nat) :: ((48 : Int) :: ds).map Int.toNat = ((48 : Int) :: 48 :: ds).map Int.toNat from rfl, hb, hv]
      exact hd)
    rw [List.append_nil] at hT
    exact .tok _ _ _ [] _ (by rw [show ((48 : Int) :: 48 :: ds).map Int.toNat = 48 :: ((48 : Int) :: ds).map Int.toNat from rfl, hT.skc]; exact hT) (.done _ rfl)
theorem scan_next {ds : List Int} (hd : IsDec ds (pw 32)) : ∃ cs p, (⟨#[49, 32]⟩ : ByteArray) ++ strOfNums ds = bts (encs cs) ∧ (∀ c ∈ cs, Cod c) ∧ ScanR (bts (encs cs)) (adv pl0 cs) (glf pl0 cs) (.bad 2 p) := by
  obtain ⟨d, es, rfl⟩ : ∃ d es, ds = d :: es := by
    rcases hd.2.2 with ⟨_, h⟩ | ⟨d, es, h, _⟩
    · exact ⟨_, _, h⟩
    · exact ⟨_, _, h⟩
  have hC := dig_codes hd.1
  have hdat : ∀ cs : List Nat, (bts (encs cs)).data.toList = encs cs := fun cs => by simp [bts]
  generalize hcs : (49 : Nat) :: 32 :: (d :: es).map Int.toNat = cs
  have hT1 : TokC cs 2 (strOfNums [49]) (32 :: (d :: es).map Int.toNat) := by
    rw [← hcs]
    exact TokC.num 49 [] (32 :: (d :: es).map Int.toNat) 1 [49] (by intro c hc; simp at hc; subst hc; decide) (stop_blank (by decide) (by decide)) ⟨[1], ⟨by intro z hz; simp at hz; omega, by decide⟩, by decide, rfl⟩ (by omega) ⟨by intro y hy; simp at hy; omega, by decide, .inr ⟨49, [], rfl, by decide⟩⟩
  obtain ⟨c, t, v, h4, h5, h6⟩ := tokC_R (bts (encs cs)) [] cs pl0 rfl (by rw [hdat]; rfl) _ _ _ hT1
  have hv : v = [49] := by
    have h7 : v ++ (32 :: (d :: es).map Int.toNat) = [49] ++ (32 :: (d :: es).map Int.toNat) := by rw [← h5, ← hcs]; rfl
    exact List.append_cancel_right h7
  subst hv
  refine ⟨cs, adv (adv pl0 [49]) [32], ?_, ?_, ?_⟩
  · rw [bts_nums _ (dig_range hd.1), show (⟨#[49, 32]⟩ : ByteArray) = bts (encs [49, 32]) from rfl, bts_append, ← encs_append, ← hcs]
    rfl
  · intro x hx
    rw [← hcs] at hx
    rcases List.mem_cons.1 hx with rfl | hx
    · exact cod_ascii (by omega)
    · rcases List.mem_cons.1 hx with rfl | hx
      · exact cod_ascii (by omega)
      · exact hC.2 x hx
  · have hsk : skp false (glf pl0 cs) = ⟨c, pl0⟩ :: glf (pl0.past c (encL c).length) t := by
      obtain ⟨a, h1, h2⟩ := skp_glf false pl0 cs
      rw [hT1.skc] at h1 h2
      have ha : a = [] := by
        have := congrArg List.length h1
        rw [List.length_append] at this
        exact List.eq_nil_of_length_eq_zero (by omega)
      subst ha
      rw [h2, h4]; rfl
    have hbad : ScanR (bts (encs cs)) (adv pl0 cs) (glf (adv pl0 [49]) (32 :: (d :: es).map Int.toNat)) (.bad 2 (adv (adv pl0 [49]) [32])) := by
      obtain ⟨a, h1, h2⟩ := skp_glf false (adv pl0 [49]) (32 :: (d :: es).map Int.toNat)
      have hdd := (dig_cons.1 hd.1).1
      have hself : skc false ((d :: es).map Int.toNat) = (d :: es).map Int.toNat := by
        have h3 : gcls ((d.toNat : Nat) : Int) = 3 := gcls_digit_of (by omega)
        exact gcls_not h3 (by decide) (by decide) _
      rw [skc_blank (by decide), hself] at h1 h2
      have ha : a = [32] := by
        have h7 : a ++ (d :: es).map Int.toNat = [32] ++ (d :: es).map Int.toNat := h1.symm
        exact List.append_cancel_right h7
      subst ha
      refine ScanR.bad _ ⟨d.toNat, adv (adv pl0 [49]) [32]⟩ (glf ((adv (adv pl0 [49]) [32]).past d.toNat (encL d.toNat).length) (es.map Int.toNat)) 2 (by rw [h2]; rfl) ?_
      have hgl : (⟨d.toNat, adv (adv pl0 [49]) [32]⟩ : Gl) :: glf ((adv (adv pl0 [49]) [32]).past d.toNat (encL d.toNat).length) (es.map Int.toNat) = glf (adv (adv pl0 [49]) [32]) ((d :: es).map Int.toNat) := rfl
      obtain ⟨u, r, h3, h4', h5', h6'⟩ := dropWhile_glf [3] (adv (adv pl0 [49]) [32]) ((d :: es).map Int.toNat)
      have hr : r = [] := by
        cases r with
        | nil => rfl
        | cons x r =>
          exfalso
          have h7 := h6' x r rfl
          rw [hC.1 x (by rw [h3]; simp)] at h7
          cases h7
      subst hr
      rw [List.append_nil] at h3
      have hadv : adv pl0 cs = adv (adv (adv pl0 [49]) [32]) ((d :: es).map Int.toNat) := by rw [← hcs]; rfl
      have hex : (bts (encs cs)).extract (adv (adv pl0 [49]) [32]).b (plf ((glf (adv (adv pl0 [49]) [32]) ((d :: es).map Int.toNat)).dropWhile (inC [3])) (adv pl0 cs)).b = bts (encs ((d :: es).map Int.toNat)) := by
        rw [h4', ← h3, hadv]
        have := extract_encs (bts (encs cs)) (encs [49, 32]) ((d :: es).map Int.toNat) [] (adv (adv pl0 [49]) [32]) (by rw [adv_b, adv_b]; rfl) (by rw [hdat, List.append_nil, ← hcs, ← encs_append]; rfl)
        simpa [glf, plf] using this
      obtain ⟨rs, hc', hv'⟩ := canon_nat (pw 32).toNat
      have hlen : IsLen (pw 32) rs.length := ⟨rs, hc', by rw [hv']; exact Int.toNat_of_nonneg (by have := pw_pos 32; omega), rfl⟩
      have hnum := tokR_num (s := bts (encs cs)) (e := adv pl0 cs) (g := ⟨d.toNat, adv (adv pl0 [49]) [32]⟩) (r := glf ((adv (adv pl0 [49]) [32]).past d.toNat (encL d.toNat).length) (es.map Int.toNat)) (n := rs.length) (ds := d :: es) (gcls_digit_of (c := d.toNat) (by omega)) (by rw [hgl, hex, bytesOf_bts _ (dig_range hd.1), hd.2.1]; exact hlen) (by rw [hgl, hex, bytesOf_bts _ (dig_range hd.1), hd.2.1]; exact hd)
      rw [if_pos (isLen_next hlen)] at hnum
      exact hnum
    have := ScanR.tok (s := bts (encs cs)) (e := adv pl0 cs) (glf pl0 cs) ⟨c, pl0⟩ (glf (pl0.past c (encL c).length) t) 2 (strOfNums [49]) (glf (adv pl0 [49]) (32 :: (d :: es).map Int.toNat)) _ hsk h6 hbad
    exact this
theorem scan_blanks (n : Nat) : ScanC (List.replicate n 32) [(0, ⟨#[]⟩)] := by
  refine .done _ ?_
  induction n with
  | zero => rfl
  | succ n ih => rw [List.replicate_succ, skc_blank (by decide)]; exact ih
theorem encs_blanks (n : Nat) : encs (List.replicate n 32) = List.replicate n 32 := by
  induction n with
  | zero => rfl
  | succ n ih => rw [List.replicate_succ, encs, ih, List.replicate_succ]; rfl
end Lm
end Go.Proofs.YtgfglefgpgckiaaDoor

namespace Go.Proofs.YtgfglefgpgckiaaDoor
namespace Lm
open Go Go.RowKit
theorem dec_upto {ds : List Int} {v : Int} (hd : IsDec ds v) (h : v ≤ p10 320) : ds.length ≤ 400 := by
  obtain ⟨h1, h2, h3⟩ := hd
  rcases h3 with ⟨_, rfl⟩ | ⟨c, cs, rfl, hc0⟩
  · simp
  · have hcd := (dig_cons.1 h1).1
    have hb := dval_bounds (dig_cons.1 h1).2
    have hlow : p10 cs.length ≤ v := by
      rw [← h2, dval]
      have : p10 cs.length * 1 ≤ (c - 48) * p10 cs.length := by
        rw [Int.mul_comm]
        exact Int.mul_le_mul_of_nonneg_right (by omega) (by have := p10_mono (m := 0) (n := cs.length) (Nat.zero_le _); simp [p10] at this; omega)
      omega
    apply Classical.byContradiction
    intro hn
    have h5 := p10_mono (m := 321) (n := cs.length) (by simp at hn; omega)
    have h6 : p10 321 = p10 320 * 10 := by rw [show (321 : Nat) = 320 + 1 from rfl, p10]; omega
    have h7 := p10_pos 320
    omega
set_option maxRecDepth 20000 in
set_option maxHeartbeats 4000000 in
theorem numbers_any (w : World) (hT : Tabs w) (ao : Option Addr) (cap : Nat) (h : Sl w (.slice ao 32 cap) (List.replicate 32 4294967295)) :
    Calls Tryd.prog 22 #[.slice ao 32 cap] w fun r w' => r = .returned (.bool true) ∧ Below w.heap.size w w' := by
  have HT := hide hT
  have H := hide h
  clear hT h
  go_enter Tryd.func22, Tryd.ntmps22
  go_wp2_with fail
  refine (text_any w ao 32 cap _ H.out (by simp)).mono ?_
  rintro r w1 ⟨DS, rfl, hds, hb1⟩
  rw [val_tops] at hds
  have HD := hide hds
  have HB1 := hide hb1
  have H1 := hide (H.out.below hb1)
  have hdz : DS.length ≤ 400 := isDec_short hds isLen_top (Nat.le_refl _)
  clear hds hb1 H
  go_wp2_with fail
  have hbA : Below w1.heap.size w1 (w1.alloc (.cells #[.int .u32 1] 50)) := (Below.refl _ _).alloc (Nat.le_refl _) _
  refine (add_g _ _ _ _ _ _ _ _ [1] (H1.out.below hbA) (sl_one w1 1 (by intro z hz; simp at hz; omega)) (by simp) (by simp)).mono ?_
  rintro r w2 ⟨a2, c2, rs, rfl, hG, hrl, hb2⟩
  rw [val_tops] at hG
  have hval : pw 32 - 1 + val [1] = pw 32 := by simp only [val]; omega
  rw [hval] at hG
  have HG := hide hG
  have HB2 := hide (HB1.out.trans ((hbA.trans (hb2.mono hbA.size)).mono HB1.out.size))
  have hrl2 : rs.length ≤ 34 := by simp at hrl; omega
  clear hG hb2 hrl hval hbA H1
  go_wp2_with fail
  refine (text_any w2 _ _ _ rs HG.out.sl (by omega)).mono ?_
  rintro r w3 ⟨DN, rfl, hdn, hb3⟩
  rw [HG.out.val] at hdn
  have HDN := hide hdn
  have HB3 := hide (HB2.out.trans (hb3.mono HB2.out.size))
  have hnz : DN.length ≤ 400 := dec_upto hdn (pw_le_p10 32)
  clear hdn hb3 HG
  obtain ⟨e1, hc1, hS1⟩ := scan_top HD.out
  obtain ⟨cn, pn, e2, hc2, hS2⟩ := scan_next HDN.out
  have hz1 : (strOfNums DS).size = DS.length := by rw [← bytesOf_length, bytes_strOf HD.out.1]
  have hz2 : (strOfNums DN).size = DN.length := by rw [← bytesOf_length, bytes_strOf HDN.out.1]
  have hf1 : (bts (encs (((48 : Int) :: 48 :: DS).map Int.toNat))).size = 2 + DS.length := by rw [← e1, ByteArray.size_append, hz1]; rfl
  have hf2 : (bts (encs cn)).size = 2 + DN.length := by rw [← e2, ByteArray.size_append, hz2]; rfl
  have q1 : ∀ w, (Op.stringOp .add ⟨#[48, 48]⟩ (strOfNums DS)).run Tryd.prog w = .ok (.string (bts (encs (((48 : Int) :: 48 :: DS).map Int.toNat)))) w := by
    intro w
    rw [← e1]
    exact run_string_add_sum (P := Tryd.prog) w _ _ (by rw [hz1]; show 2 + DS.length ≤ _; omega)
  have q2 : ∀ w, (Op.stringOp .add ⟨#[49, 32]⟩ (strOfNums DN)).run Tryd.prog w = .ok (.string (bts (encs cn))) w := by
    intro w
    rw [← e2]
    exact run_string_add_sum (P := Tryd.prog) w _ _ (by rw [hz2]; show 2 + DN.length ≤ _; omega)
  rw [bts_size] at hf1 hf2
  have K1 := hide (fun (W : World) (h : Tabs W) => scan_cs W h _ hc1 _ hS1 (by omega))
  have K2 := hide (fun (W : World) (h : Tabs W) => scan_known W h cn hc2 _ hS2 (by omega))
  generalize bts (encs (((48 : Int) :: 48 :: DS).map Int.toNat)) = T1 at q1 K1
  generalize bts (encs cn) = T2 at q2 K2
  generalize hX1 : strOfNums DS = X1 at q1 K1 ⊢
  generalize hX2 : strOfNums DN = X2 at q2 ⊢
  clear e1 hc1 hS1 e2 hc2 hS2 hz1 hz2 hf1 hf2 HD HDN hdz hnz hX1 hX2
  go_wp2_with fail
  refine (K1.out w3 (HT.out.below HB3.out)).mono ?_
  rintro r w4 ⟨hb4, l, v, hl, rfl, hown⟩
  have hTs : Ts w4 v l := Ts.own hown
  obtain ⟨t, t2, rfl⟩ : ∃ t t2, l = [t, t2] := by
    have h1 := congrArg List.length hl
    simp at h1
    match l, h1 with
    | [t, t2], _ => exact ⟨t, t2, rfl⟩
  have htx : t.text = X1 := by simp [kx] at hl; exact hl.1.2
  obtain ⟨a4, c4, rfl, _⟩ := hTs.parts
  obtain ⟨b, off, rfl, g⟩ := hTs.tok (i := 0) (t := t) rfl
  have HB4 := hide (HB3.out.trans (hb4.mono HB3.out.size))
  have HTk := hide g
  clear hown hTs hl hb4 g q1 K1
  unfold Pl.v
  simp only [plz]
  go_wp2_with fail
  have hbA : Below w4.heap.size w4 (w4.alloc (.cells #[.int .i64 0, .int .i64 0, .int .i64 0, .int .i64 0] 25)) := (Below.refl _ _).alloc (Nat.le_refl _) _
  have HB5 := hide (HB4.out.trans (hbA.mono HB4.out.size))
  have HTk5 := hide (HTk.out.below hbA)
  clear hbA
  generalize w4.alloc (.cells #[.int .i64 0, .int .i64 0, .int .i64 0, .int .i64 0] 25) = w5 at HB5 HTk5 ⊢
  refine (K2.out w5 (HT.out.below HB5.out)).mono ?_
  rintro r w6 ⟨hb6, rfl⟩
  have HB6 := hide (HB5.out.trans (hb6.mono HB5.out.size))
  have hTk6 := HTk5.out.below hb6
  obtain ⟨_, _, d1, _, _, _, _⟩ := hTk6.below ((Below.refl _ _).alloc (Nat.le_refl _) (.cells #[.int .i64 pn.b, .int .i64 pn.g, .int .i64 pn.l, .int .i64 pn.c] 25))
  rw [Nat.zero_mul, Nat.add_zero, htx] at d1
  clear hb6 hTk6 HTk HTk5 htx
  unfold Pl.v
  go_wp2_with fail
  have HB7 := hide (HB6.out.alloc HB6.out.size (.cells #[.int .i64 pn.b, .int .i64 pn.g, .int .i64 pn.l, .int .i64 pn.c] 25))
  generalize w6.alloc (.cells #[.int .i64 pn.b, .int .i64 pn.g, .int .i64 pn.l, .int .i64 pn.c] 25) = w7 at HB7 d1 ⊢
  clear d1
  go_loopw [11, 12] (fun sv iv wr => ∃ (A : ByteArray) (i : Nat), sv = .string A ∧ iv = .int .i64 i ∧ i ≤ 4096 ∧ A = bts (List.replicate i 32) ∧ wr = w7) (fun _ iv _ => 4096 - (intOf iv).toNat)
  case atStart => exact ⟨⟨#[]⟩, 0, rfl, rfl, Nat.zero_le _, rfl, rfl⟩
  case round =>
    obtain ⟨A, i, rfl, rfl, hi, hA, rfl⟩ := hrel
    have hAz : A.size = i := by rw [hA, bts_size]; simp
    have HA := hide hA
    clear hA
    have hadd : ∀ w, (Op.stringOp .add A ⟨#[32]⟩).run Tryd.prog w = .ok (.string (A ++ ⟨#[32]⟩)) w := fun w => run_string_add_sum (P := Tryd.prog) w A _ (by show A.size + 1 ≤ _; omega)
    by_cases hlt : i < 4096
    · have hlt' : (i : Int) < 4096 := by omega
      go_wp2
      go_roundw
      case rel =>
        refine ⟨_, i + 1, rfl, by go_num, by omega, ?_, trivial⟩
        rw [HA.out, show (⟨#[32]⟩ : ByteArray) = bts [32] from rfl, bts_append, ← List.replicate_succ']
      case measure => simp [intOf]; omega
    · have hlt' : decide ((i : Int) < 4096) = false := by simp; omega
      have hi4 : i = 4096 := by omega
      have hA4 : A = bts (encs (List.replicate 4096 32)) := by rw [HA.out, hi4, encs_blanks]
      have K3 := hide (fun (W : World) (h : Tabs W) => scan_cs W h (List.replicate 4096 32) (by intro c hc; rw [(List.mem_replicate.1 hc).2]; exact cod_ascii (by omega)) _ (scan_blanks 4096) (by rw [encs_blanks, List.length_replicate]; omega))
      rw [← hA4] at K3
      have K4 := hide (fun (W : World) => scan_long W (A ++ ⟨#[32]⟩) (by rw [ByteArray.size_append]; show 4096 < A.size + 1; omega))
      generalize A ++ (⟨#[32]⟩ : ByteArray) = A2 at hadd K4
      clear HA hA4 hAz hi hi4 hlt
      go_wp2_with fail
      refine (K3.out _ (HT.out.below HB7.out)).mono ?_
      rintro r w8 ⟨hb8, l, v, _, rfl, _⟩
      have HB8 := hide (HB7.out.trans (hb8.mono HB7.out.size))
      clear hb8
      unfold Pl.v
      simp only [plz]
      go_wp2_with fail
      have HB9 := hide (HB8.out.alloc HB8.out.size (.cells #[.int .i64 0, .int .i64 0, .int .i64 0, .int .i64 0] 25))
      generalize w8.alloc (.cells #[.int .i64 0, .int .i64 0, .int .i64 0, .int .i64 0] 25) = w9 at HB9 ⊢
      refine (K4.out w9).mono ?_
      rintro r w10 ⟨hb10, rfl⟩
      have HB10 := hide (HB9.out.trans (hb10.mono HB9.out.size))
      clear hb10
      unfold Pl.v
      simp only [plz]
      go_wp2
      go_ret
      exact ⟨by rfl, HB10.out.alloc HB10.out.size _⟩
end Lm
end Go.Proofs.YtgfglefgpgckiaaDoor

namespace Go.Proofs.YtgfglefgpgckiaaDoor
namespace Lm
open Go Go.RowKit
theorem and3 (n : Int) : bits .and .i64 n 3 = n % 4 := by
  have h3 : (BitVec.ofInt 64 3).toNat = 2 ^ 2 - 1 := by decide
  have key : (BitVec.ofInt 64 n &&& BitVec.ofInt 64 3).toNat = (n % ((2 ^ 64 : Nat) : Int)).toNat % 2 ^ 2 := by
    rw [BitVec.toNat_and, BitVec.toNat_ofInt, h3, Nat.and_two_pow_sub_one_eq_mod]
  show IntKind.i64.wrap ((BitVec.ofInt 64 n &&& BitVec.ofInt 64 3).toNat : Nat) = n % 4
  rw [key, IntKind.wrap_i64]
  omega
def let4 : List Nat := [97, 90, 945, 1103]
def par5 : List Nat := [55, 95, 8242, 8329, 98]
theorem let4_ok {c : Nat} (h : c ∈ let4) : NmC [c] := by
  simp only [let4, List.mem_cons, List.not_mem_nil, or_false] at h
  rcases h with rfl | rfl | rfl | rfl
  · exact ⟨by intro d hd; simp at hd; subst hd; decide, by intro d hd; simp at hd; subst hd; unfold Cod; omega, 97, [], rfl, by decide⟩
  · exact ⟨by intro d hd; simp at hd; subst hd; decide, by intro d hd; simp at hd; subst hd; unfold Cod; omega, 90, [], rfl, by decide⟩
  · exact ⟨by intro d hd; simp at hd; subst hd; decide, by intro d hd; simp at hd; subst hd; unfold Cod; omega, 945, [], rfl, by decide⟩
  · exact ⟨by intro d hd; simp at hd; subst hd; decide, by intro d hd; simp at hd; subst hd; unfold Cod; omega, 1103, [], rfl, by decide⟩
theorem par5_ok {c : Nat} (h : c ∈ par5) : inK [2, 3, 4] c = true ∧ Cod c := by
  simp only [par5, List.mem_cons, List.not_mem_nil, or_false] at h
  rcases h with rfl | rfl | rfl | rfl | rfl
  all_goals exact ⟨by decide, by unfold Cod; omega⟩
theorem let4_at (w : World) (cs : Array Value) (hcs : cs = #[.string ⟨#[97]⟩, .string ⟨#[90]⟩, .string ⟨#[206, 177]⟩, .string ⟨#[209, 143]⟩]) (b : Nat) (hb : w.heap[b]? = some (.cells cs 9 (0, 0))) (k : Nat) (hk : k < 4) : ∃ c ∈ let4, w.cell? ⟨b, k, none⟩ = some (.string (bts (encs [c]))) := by
  rw [cell_of_row w b k _ _ _ hb, hcs]
  match k, hk with
  | 0, _ => exact ⟨97, by simp [let4], rfl⟩
  | 1, _ => exact ⟨90, by simp [let4], rfl⟩
  | 2, _ => exact ⟨945, by simp [let4], rfl⟩
  | 3, _ => exact ⟨1103, by simp [let4], rfl⟩
theorem par5_at (w : World) (cs : Array Value) (hcs : cs = #[.string ⟨#[55]⟩, .string ⟨#[95]⟩, .string ⟨#[226, 128, 178]⟩, .string ⟨#[226, 130, 137]⟩, .string ⟨#[98]⟩]) (b : Nat) (hb : w.heap[b]? = some (.cells cs 9 (0, 0))) (k : Nat) (hk : k < 5) : ∃ c ∈ par5, w.cell? ⟨b, k, none⟩ = some (.string (bts (encs [c]))) := by
  rw [cell_of_row w b k _ _ _ hb, hcs]
  match k, hk with
  | 0, _ => exact ⟨55, by simp [par5], rfl⟩
  | 1, _ => exact ⟨95, by simp [par5], rfl⟩
  | 2, _ => exact ⟨8242, by simp [par5], rfl⟩
  | 3, _ => exact ⟨8329, by simp [par5], rfl⟩
  | 4, _ => exact ⟨98, by simp [par5], rfl⟩
set_option maxRecDepth 20000 in
set_option maxHeartbeats 4000000 in
theorem glyphlimits_any (w : World) (hT : Tabs w) (x y : Int) :
    Calls Tryd.prog 8 #[.int .i64 x, .int .i64 y] w fun r w' => r = .returned (.bool true) ∧ Below w.heap.size w w' := by
  have HT := hide hT
  clear hT
  have h3 := and3 x
  obtain ⟨k, hk3, hk4⟩ : ∃ k : Nat, bits .and .i64 x 3 = (k : Int) ∧ k < 4 := ⟨(x % 4).toNat, by rw [h3]; omega, by omega⟩
  clear h3
  obtain ⟨m, hm, hm0, hm1⟩ : ∃ m, bits .and .i64 y 4611686018427387903 = m ∧ 0 ≤ m ∧ m ≤ 4611686018427387903 := ⟨_, rfl, and_mask y⟩
  go_enter Tryd.func8, Tryd.ntmps8
  go_wp2_with fail
  refine (gawake_any w HT.out).mono ?_
  rintro r w1 ⟨rfl, hb1⟩
  have HB1 := hide hb1
  clear hb1
  have hbW : Below w1.heap.size w1 ((w1.alloc (.cells #[.string ⟨#[97]⟩, .string ⟨#[90]⟩, .string ⟨#[206, 177]⟩, .string ⟨#[209, 143]⟩] 9)).alloc (.cells #[.string ⟨#[55]⟩, .string ⟨#[95]⟩, .string ⟨#[226, 128, 178]⟩, .string ⟨#[226, 130, 137]⟩, .string ⟨#[98]⟩] 9)) := below_two _ _ _
  have hL : ((w1.alloc (.cells #[.string ⟨#[97]⟩, .string ⟨#[90]⟩, .string ⟨#[206, 177]⟩, .string ⟨#[209, 143]⟩] 9)).alloc (.cells #[.string ⟨#[55]⟩, .string ⟨#[95]⟩, .string ⟨#[226, 128, 178]⟩, .string ⟨#[226, 130, 137]⟩, .string ⟨#[98]⟩] 9)).heap[w1.heap.size]? = some (.cells #[.string ⟨#[97]⟩, .string ⟨#[90]⟩, .string ⟨#[206, 177]⟩, .string ⟨#[209, 143]⟩] 9 (0, 0)) :=
    (((Below.refl _ _).alloc (Nat.le_refl _) _).block w1.heap.size (by simp [World.size_alloc])).trans (heap_alloc_new w1 _)
  have hP : ((w1.alloc (.cells #[.string ⟨#[97]⟩, .string ⟨#[90]⟩, .string ⟨#[206, 177]⟩, .string ⟨#[209, 143]⟩] 9)).alloc (.cells #[.string ⟨#[55]⟩, .string ⟨#[95]⟩, .string ⟨#[226, 128, 178]⟩, .string ⟨#[226, 130, 137]⟩, .string ⟨#[98]⟩] 9)).heap[w1.heap.size + 1]? = some (.cells #[.string ⟨#[55]⟩, .string ⟨#[95]⟩, .string ⟨#[226, 128, 178]⟩, .string ⟨#[226, 130, 137]⟩, .string ⟨#[98]⟩] 9 (0, 0)) := by
    have := heap_alloc_new (w1.alloc (.cells #[.string ⟨#[97]⟩, .string ⟨#[90]⟩, .string ⟨#[206, 177]⟩, .string ⟨#[209, 143]⟩] 9)) (.cells #[.string ⟨#[55]⟩, .string ⟨#[95]⟩, .string ⟨#[226, 128, 178]⟩, .string ⟨#[226, 130, 137]⟩, .string ⟨#[98]⟩] 9)
    rwa [World.size_alloc] at this
  go_upto_region 5 with fail
  generalize (w1.alloc (.cells #[.string ⟨#[97]⟩, .string ⟨#[90]⟩, .string ⟨#[206, 177]⟩, .string ⟨#[209, 143]⟩] 9)).alloc (.cells #[.string ⟨#[55]⟩, .string ⟨#[95]⟩, .string ⟨#[226, 128, 178]⟩, .string ⟨#[226, 130, 137]⟩, .string ⟨#[98]⟩] 9) = w2 at hbW hL hP ⊢
  have HB2 := hide (HB1.out.trans (hbW.mono HB1.out.size))
  obtain ⟨c0, hc0, hcell⟩ := let4_at w2 _ rfl _ hL k hk4
  have HP := hide hP
  have hk4' : (k : Int) < 4 := by omega
  have HC0 := hide (let4_ok hc0)
  generalize w1.heap.size + 1 = bP at HP ⊢
  generalize w1.heap.size = bL at hcell ⊢
  clear hbW hL hP hc0
  go_wp2_with fail
  clear hcell hk4'
  go_loopw [7, 8] (fun sv iv wr => ∃ (cs : List Nat) (i : Nat), sv = .string (bts (encs cs)) ∧ iv = .int .i64 i ∧ i ≤ 15 ∧ NmC cs ∧ cs.length = i + 1 ∧ wr = w2) (fun _ iv _ => 15 - (intOf iv).toNat)
  case atStart => exact ⟨[c0], 0, rfl, rfl, by omega, HC0.out, rfl, rfl⟩
  case round =>
    obtain ⟨cs, i, rfl, rfl, hi, hN, hlen, rfl⟩ := hrel
    have HN := hide hN
    have hz := encs_len cs
    clear hN
    by_cases hlt : i < 15
    · have hlt' : (i : Int) < 15 := by omega
      obtain ⟨j, hj, hj5⟩ : ∃ j : Nat, (m + (i : Int)).tmod 5 = (j : Int) ∧ j < 5 := by
        have h1 : 0 ≤ m + (i : Int) := by omega
        have h2 := Int.tmod_nonneg 5 h1
        have h4 := Int.tmod_lt_of_pos (m + (i : Int)) (show (0 : Int) < 5 by omega)
        exact ⟨((m + (i : Int)).tmod 5).toNat, by omega, by omega⟩
      obtain ⟨d, hd, hcell⟩ := par5_at _ _ rfl _ HP.out j hj5
      have hdk := par5_ok hd
      have hadd : ∀ w, (Op.stringOp .add (bts (encs cs)) (bts (encs [d]))).run Tryd.prog w = .ok (.string (bts (encs (cs ++ [d])))) w := by
        intro w
        rw [encs_append, ← bts_append]
        exact run_string_add_sum (P := Tryd.prog) w _ _ (by rw [bts_size, bts_size]; have := encs_len [d]; simp only [List.length_singleton] at this; omega)
      have hj5' : (j : Int) < 5 := by omega
      have HDK := hide hdk
      have HLEN := hide hlen
      clear hdk hd hlen hz
      generalize hX : bts (encs cs) = X at hadd ⊢
      generalize hY : bts (encs [d]) = Y at hadd hcell
      generalize hZ : bts (encs (cs ++ [d])) = Z at hadd
      have HZ := hide hZ
      clear hX hY hZ
      go_wp2
      go_roundw
      case rel => exact ⟨cs ++ [d], i + 1, by rw [HZ.out], by go_num, by omega, HN.out.snoc d HDK.out.1 HDK.out.2, by rw [List.length_append, HLEN.out]; rfl, trivial⟩
      case measure => simp [intOf]; omega
    · have hlt' : decide ((i : Int) < 15) = false := by simp; omega
      have hl16 : cs.length = 16 := by omega
      have hN17 := HN.out.snoc 120 (by decide) (by unfold Cod; omega)
      have hl17 : (cs ++ [120]).length = 17 := by rw [List.length_append, hl16]; rfl
      have hz17 := encs_len (cs ++ [120])
      have hR := hN17.long (by omega) [32, 32] (fun r => by rfl)
      have hz19 := encs_len ([32, 32] ++ (cs ++ [120]))
      have hl19 : ([32, 32] ++ (cs ++ [120])).length = 19 := by rw [List.length_append, hl17]; rfl
      have hcd : ∀ c ∈ [32, 32] ++ (cs ++ [120]), Cod c := by
        intro c hc
        rcases List.mem_append.1 hc with hc | hc
        · simp at hc; subst hc; unfold Cod; omega
        · exact hN17.cod c hc
      have K1 := hide (fun (W : World) (h : Tabs W) => scan_known W h _ hcd _ hR (by omega))
      have K2 := hide (fun (W : World) (h : Tabs W) => name_yes W h cs HN.out (by omega))
      have K3 := hide (fun (W : World) (h : Tabs W) => name_no W h (cs ++ [120]) hN17 (by omega) (by omega))
      have q1 : ∀ w, (Op.stringOp .add ⟨#[32, 32]⟩ (bts (encs cs))).run Tryd.prog w = .ok (.string (bts (encs ([32, 32] ++ cs)))) w := by
        intro w
        rw [encs_append, ← bts_append]
        exact run_string_add_sum (P := Tryd.prog) w _ _ (by rw [bts_size]; show 2 + (encs cs).length ≤ _; omega)
      have q2 : ∀ w, (Op.stringOp .add (bts (encs ([32, 32] ++ cs))) ⟨#[120]⟩).run Tryd.prog w = .ok (.string (bts (encs ([32, 32] ++ (cs ++ [120]))))) w := by
        intro w
        rw [← List.append_assoc, encs_append _ [120], ← bts_append]
        exact run_string_add_sum (P := Tryd.prog) w _ _ (by rw [bts_size, encs_append, List.length_append]; show 2 + (encs cs).length + 1 ≤ _; omega)
      have q3 : ∀ w, (Op.stringOp .add (bts (encs cs)) ⟨#[120]⟩).run Tryd.prog w = .ok (.string (bts (encs (cs ++ [120])))) w := by
        intro w
        rw [encs_append, ← bts_append]
        exact run_string_add_sum (P := Tryd.prog) w _ _ (by rw [bts_size]; show (encs cs).length + 1 ≤ _; omega)
      generalize bts (encs ([32, 32] ++ (cs ++ [120]))) = S2 at K1 q2
      generalize bts (encs ([32, 32] ++ cs)) = S1 at q1 q2
      generalize bts (encs (cs ++ [120])) = S3 at K3 q3
      generalize bts (encs cs) = S0 at K2 q1 q3 ⊢
      clear hl16 hN17 hl17 hz17 hR hz19 hl19 hcd HN hz hlen hm hm0 hm1 hk3
      go_wp2_with fail
      refine (K1.out _ (HT.out.below HB2.out)).mono ?_
      rintro r w3 ⟨hb3, rfl⟩
      have HB3 := hide (HB2.out.trans (hb3.mono HB2.out.size))
      clear hb3
      have hpl : adv pl0 [32, 32] = ⟨2, 2, 1, 3⟩ := rfl
      rw [hpl]
      clear hpl
      unfold Pl.v
      go_wp2_with fail
      have hbA : Below w3.heap.size w3 (w3.alloc (.cells #[.int .i64 2, .int .i64 2, .int .i64 1, .int .i64 3] 25)) := (Below.refl _ _).alloc (Nat.le_refl _) _
      have hpA : PlB (w3.alloc (.cells #[.int .i64 2, .int .i64 2, .int .i64 1, .int .i64 3] 25)) w3.heap.size ⟨2, 2, 1, 3⟩ := heap_alloc_new w3 _
      have HB4 := hide (HB3.out.trans (hbA.mono HB3.out.size))
      have HPA := hide hpA
      clear hbA hpA
      generalize w3.alloc (.cells #[.int .i64 2, .int .i64 2, .int .i64 1, .int .i64 3] 25) = w4 at HB4 HPA ⊢
      generalize w3.heap.size = aA at HPA ⊢
      refine (K2.out w4 (HT.out.below HB4.out)).mono ?_
      rintro r w5 ⟨hb5, rfl⟩
      have HB5 := hide (HB4.out.trans (hb5.mono HB4.out.size))
      have HPA5 := hide (HPA.out.below hb5)
      clear hb5 HPA
      go_wp2_with fail
      refine (K3.out w5 (HT.out.below HB5.out)).mono ?_
      rintro r w6 ⟨hb6, rfl⟩
      have HB6 := hide (HB5.out.trans (hb6.mono HB5.out.size))
      obtain ⟨_, p0, p1, p2, p3⟩ := (HPA5.out.below hb6).cells
      simp only at p0 p1 p2 p3
      clear hb6 HPA5
      go_wp2_with fail
      refine (sameplace_eq w6 ⟨2, 2, 1, 3⟩).mono ?_
      rintro r w7 ⟨rfl, hb7⟩
      have HB7 := hide (HB6.out.trans (hb7.mono HB6.out.size))
      clear hb7 p0 p1 p2 p3
      obtain ⟨i0, hi0, hz0, hz1, hz2⟩ := info_parts info32
      go_wp2_with (refine wpList_make_full _ rfl (.const (.int .i64 32)) (.const (.int .i64 32)) 49 rfl w7.heap.size 50 i0 (.int .u32 0) 1 Tryd.underlying49 hi0 hz0 hz1 .i64 .i64 _ _ 32 rfl rfl (by omega) (by omega) (by rw [hz2]; omega) (by unfold maxLen; omega) (Nat.le_refl _) ?hK)
      case hK =>
        intro w8 hown hgrow
        obtain ⟨_, cur, hh, hcs, _⟩ := block_of_made hown
        have hb8 : Below w7.heap.size w7 w8 := (Below.refl w7.heap.size w7).grown hgrow (Nat.le_refl _) (by simp)
        have HB8 := hide hb8
        have HH := hide hh
        clear hown hgrow hh hb8 hi0 hz0 hz1 hz2
        go_wp2_with fail
        have hbq : w7.heap.size ≤ w7.heap.size := Nat.le_refl _
        generalize hq : w7.heap.size = q7 at HH ⊢
        go_loopw [13] (fun iv wr => ∃ (i : Nat) (cur : Array Value), iv = .int .i64 i ∧ i ≤ 32 ∧ cur.size = 32 ∧ (∀ j, j < i → cur[j]? = some (.int .u32 4294967295)) ∧ wr.heap[q7]? = some (.cells cur 50 (0, 0)) ∧ Below w7.heap.size w7 wr) (fun iv _ => 32 - (intOf iv).toNat)
        case atStart => exact ⟨0, cur, rfl, Nat.zero_le _, hcs, (fun j hj => absurd hj (Nat.not_lt_zero _)), HH.out, HB8.out⟩
        case round =>
          obtain ⟨i, cur, rfl, hi, hcs, hfill, hh, hbw⟩ := hrel
          have HF := hide hfill
          have HH := hide hh
          have HW := hide hbw
          clear hfill hh hbw
          by_cases hlt : i < 32
          · have hlt' : (i : Int) < 32 := by omega
            obtain ⟨u, hu⟩ : ∃ u, wr.cell? ⟨q7, i, none⟩ = some u := by
              rw [cell_of_row wr q7 _ cur _ _ HH.out, Array.getElem?_eq_getElem (by omega)]
              exact ⟨_, rfl⟩
            have fu := frozen_of_row wr q7 i _ _ HH.out
            go_wp2
            go_roundw
            case rel =>
              refine ⟨i + 1, cur.setIfInBounds i (.int .u32 4294967295), by go_num, by omega, by rw [Array.size_setIfInBounds]; exact hcs, ?_, ?_, HW.out.setCell (by show w7.heap.size ≤ q7; omega) _⟩
              · intro j hj
                by_cases hji : j = i
                · subst hji
                  rw [Array.getElem?_setIfInBounds_self_of_lt (by omega)]
                · rw [Array.getElem?_setIfInBounds_ne (by omega)]
                  exact HF.out j (by omega)
              · rw [heap_setCell_same _ _ _ _ _ _ HH.out]
            case measure => simp [intOf]; omega
          · have hlt' : decide ((i : Int) < 32) = false := by simp; omega
            have hi32 : i = 32 := by omega
            have hsl : Sl wr (.slice (some ⟨q7, 0, none⟩) 32 32) (List.replicate 32 4294967295) := by
              refine ⟨_, 32, by simp, by simp, by simp [maxLen], (canon_top 32).1, .inr ⟨q7, 0, rfl, fun j hj => ?_⟩⟩
              rw [List.length_replicate] at hj
              rw [cell_of_row wr q7 _ cur _ _ HH.out, Nat.zero_add, HF.out j (by omega), List.getD_eq_getElem?_getD, List.getElem?_replicate, if_pos hj]
              rfl
            have HSL := hide hsl
            have HW8 := hide (HB7.out.trans (HW.out.mono HB7.out.size))
            clear hsl hi32 hi
            go_wp2_with fail
            refine (numbers_any wr (HT.out.below HW8.out) _ _ HSL.out).mono ?_
            rintro r w9 ⟨rfl, hb9⟩
            go_wp2
            go_ret
            exact ⟨by rfl, HW8.out.trans (hb9.mono HW8.out.size)⟩
end Lm
end Go.Proofs.YtgfglefgpgckiaaDoor

namespace Go.Proofs.YtgfglefgpgckiaaDoor
namespace glyphLimitsLaw
open Go.ChangeShapes Go.WideShapes Go.ChangeAt Go.RowKit
open Go.ChangeMaps (open_string shut_string)
theorem own : ownKnob Tryd.prog.godebug = none := by kernel_rfl
noncomputable def laidWorld (os : Os) : World :=
  let w0 := World.holding Tryd.prog os ⟨#[], #[], []⟩
  let put (h : Array Obj) (g : Nat) (cs : Array Value) : Array Obj := h.modify g fun
    | .cells _ t frozen => .cells cs t frozen
    | o => o
  let h1 := put w0.heap (Tryd.lays197_ren.g 3) (Lib.firstTab.map fun z => Value.int .u8 z).toArray
  let h2 := put h1 (Tryd.lays197_ren.g 4) ((List.range 16).flatMap fun i => [Value.int .u8 (Lib.accLo i), Value.int .u8 (Lib.accHi i)]).toArray
  { w0 with heap := h2 }
theorem laid_met (os : Os) : laidMet Tryd.prog Rows.glyphLimitsRow.laid ((laidWorld os).forCall (fun _ _ => 0) ⟨#[], #[.int .i64 0, .int .i64 0], []⟩).memory :=
  laidMet_of_run' 8 (by kernel_rfl) (by kernel_rfl)
theorem tabs {W : World} (h : laidMet Tryd.prog Rows.glyphLimitsRow.laid W) : Lm.Tabs W :=
  utf8Tabs_of_reads (ρ := Tryd.lays197_ren) { Tryd.lays197 with } ⟨by kernel_rfl, by kernel_rfl, by kernel_rfl, by kernel_rfl, by kernel_rfl, by kernel_rfl, by kernel_rfl⟩
    (Lib.laidMet.reads h (show ("unicode/utf8.first", Lib.firstData) ∈ Rows.glyphLimitsRow.laid from by
      rw [show Lib.firstData = Rows.laid_unicode_utf8_first from by kernel_rfl]
      exact .tail _ (.head _)))
    (Lib.laidMet.reads h (show ("unicode/utf8.acceptRanges", Lib.acceptData) ∈ Rows.glyphLimitsRow.laid from by
      rw [show Lib.acceptData = Rows.laid_unicode_utf8_acceptRanges from by kernel_rfl]
      exact .head _))
theorem reads (os : Os) {H : Type} (enc : TypeId × Value → H) : ∃ places, DataW.whole enc Tryd.prog ((laidWorld os).forCall (fun _ _ => 0) ⟨#[], #[.int .i64 0, .int .i64 0], []⟩).memory Tryd.f8.params.toList Rows.glyphLimitsSpec.vars false (#[.int .i64 0, .int .i64 0] : Array Value).toList 8 = some ([.lit (.int .i64 0), .lit (.int .i64 0)], [], places) :=
  ⟨[], by kernel_rfl⟩
set_option linter.unusedVariables false in
set_option maxRecDepth 100000 in
theorem lifted (os : Os) (started : os.Started) (H : Type) (enc : TypeId × Value → H) (F : Stop.Interp) :
    ReturnsInHanded {} Tryd.checked os 8 .any ((OpenSpec.ofChange Rows.glyphLimitsSpec).preRow enc Tryd.prog Tryd.f8 Rows.glyphLimitsRow.domain false Rows.glyphLimitsRow.laid) (((OpenSpec.ofChange Rows.glyphLimitsSpec).at F).post enc Tryd.prog Tryd.f8 false true false false) := by
  obtain ⟨places, hx⟩ := reads os enc
  refine returnsInHanded_of_row (C := Tryd.checked) (s := (OpenSpec.ofChange Rows.glyphLimitsSpec)) own started (by kernel_rfl) Tryd.func8
    (witness_row_at (enc := enc) (C := Tryd.checked) false (laidWorld os) #[.int .i64 0, .int .i64 0] rfl (by kernel_rfl) (by kernel_rfl) (by kernel_rfl)
      (OpenSpec.preRow_of_cond 8 hx (by kernel_rfl) (fun k hk => by cases hk) (by kernel_rfl) (laid_met os))) ?_
  intro W base args ds gs before hval0 hW hcnd0 hcond hsz0 hL hj2 hj3
  have hTabs : Lm.Tabs W := tabs hL
  have hval : ∀ (j : Nat) t v, Tryd.f8.params[j]? = some t → args[j]? = some v → Value.okWide Tryd.prog W .any base t v := hval0
  have hW' := hW
  obtain ⟨p, q, hA0, hV, rfl, hfz, hnd⟩ := hW
  have hA : DataW.TrodAll enc Tryd.prog W 0 (fun _ => true) true Tryd.f8.params.toList args.toList ds p := hA0
  have hsz : (DataW.weightsEach Tryd.prog (Tryd.f8.params.toList ++ Rows.glyphLimitsSpec.plain.varTypes Tryd.prog) (ds ++ gs)).all (· ≤ reachBytes) = true := hsz0
  rw [Tryd.params8] at hA hval hsz
  obtain ⟨v0, vs0, d0, ds0, p0, q0, hargs, rfl, rfl, h0, r0⟩ := trodAll_cons hA
  obtain ⟨v1, vs1, d1, ds1, p1, q1, rfl, rfl, rfl, h1, r1⟩ := trodAll_cons r0
  obtain ⟨rfl, rfl, rfl⟩ := trodAll_nil r1
  obtain rfl : args = #[v0, v1] := by cases args; simp_all
  obtain ⟨rfl, rfl⟩ := trodVars_none hV
  obtain ⟨a0, rfl, rfl, rfl, w0⟩ := open_int Tryd.underlying3 (hval 0 3 v0 rfl rfl) h0
  obtain ⟨a1, rfl, rfl, rfl, w1⟩ := open_int Tryd.underlying3 (hval 1 3 v1 rfl rfl) h1
  clear hA0 hval0
  refine (Lm.glyphlimits_any W hTabs a0 a1).mono fun e W' ⟨he, bel⟩ => ?_
  subst he
  exact ⟨_, rfl, _, _, _, [], _, [], hW', trodAll_mk1 (shut_bool Tryd.underlying4 _), (trodAll_cons_mk (shut_int Tryd.underlying3 w0) (trodAll_cons_mk (shut_int Tryd.underlying3 w1) trodAll_mk0)), rfl, bel.frame _, fun h => by cases h⟩
theorem said : Rows.GlyphLimitsSaid :=
  OpenClaim.holds_of_cond 8 Tryd.f8 rfl rfl rfl rfl rfl rfl rfl ⟨rfl, rfl, rfl, rfl, rfl⟩ rfl rfl rfl rfl rfl (by kernel_rfl) Tryd.func8 (by kernel_rfl)
    (of_decide_eq_true (by kernel_rfl)) (by unfold Func.isWrapper; first | (rw [if_pos (by decide +kernel)]; kernel_rfl) | (rw [if_neg (by decide +kernel)]; exact ⟨rfl, rfl⟩))
    (fun os started H enc _ F => by rw [OpenClaim.pre_eq_preRow]; exact lifted os started H enc F)
theorem plain (f : FuncId) (fn : Func) (hf : Tryd.pinned.checked.prog.funcNamed "rafter/rafterlaw04.GlyphLimits" = some f) (hfn : Tryd.pinned.checked.prog.funcs[f]? = some fn) :
    false = Tryd.pinned.checked.prog.looks [] ∧ ∀ (j : Nat) t, fn.params[j]? = some t → Tryd.pinned.checked.prog.wantsStandIn t = false := by
  obtain rfl : f = 8 := Option.some.inj ((show Tryd.prog.funcNamed "rafter/rafterlaw04.GlyphLimits" = some 8 by kernel_rfl).symm.trans hf) |>.symm
  obtain rfl : fn = Tryd.f8 := (Option.some.inj (Tryd.func8.symm.trans hfn)).symm
  refine ⟨by kernel_rfl, fun j t ht => ?_⟩
  rw [Tryd.params8] at ht
  have hm := Array.mem_of_getElem? ht
  simp at hm
  obtain rfl := hm
  exact (show Tryd.prog.wantsStandIn 3 = false by kernel_rfl)
theorem card : Rows.GlyphLimitsCardSaid :=
  Claim7.holds_tied_plain_at .later [] _ _ _ _ said (fun _ h => by cases h) (by kernel_rfl) (fun _ h => by cases h) glyphLimits_row_tie rfl ⟨rfl, rfl⟩ (by kernel_rfl) rfl plain (by kernel_rfl)
end glyphLimitsLaw
theorem glyphLimits_card : Rows.GlyphLimitsCardSaid := glyphLimitsLaw.card
#print axioms glyphLimits_card
end Go.Proofs.YtgfglefgpgckiaaDoor

