/-
  What the library's utf8.DecodeRuneInString does, at this program. The glyphs of a text up to its first byte that is part of none: the walk. The code point that begins at a byte, as the document reads it. The document's reader of texts. The document's reader goes behind blanks and comments. What the library's strings.Clone does, at this program. The scanner goes past a name. The scanner goes past a number. What the document's reader asks of codes, and of a run of digits. The scanner goes past a sign. Tokens: what a text's glyphs make. No program is named here. The scanner goes past a token. The scanner goes past a token: the walk. Tokens in memory, and the scanner on its way. What Scan answers, of any text: the walk. What every program answers that is one: Scan of one small text. Tokens in memory held against one another. What the library's strings.Builder does, at this program. Join, the program's and the document's, of any tokens. The document's reader reads a token. The document's reader reads a name. The document's reader reads a number. The document's glyphs of any text: the walk. The bytes of a code point, as the law writes them. The document's reader reads a sign. Tokens of codes: what a text's codes make, without places. No program is named here. Tokens that are written anew, and blanks and comments that are put between tokens. No program is named here. The bytes of a code point that stands in a text are those that stand there.
-/
import Derived.Shelf.Lay
import Derived.Shelf.Unicode.DecodeAny
import Derived.Lib.LaidU8
import Derived.Test.YtgfglefgpgckiaaDoorProg
import Derived.Lib.OthersKept
import Derived.Laws.RangeAny
import Derived.Deep.RegionLaw
import Derived.Deep.AppendLies
import Derived.Shelf.Strconv.Clone
import Derived.Laws.Concat
import Derived.Shelf.Strings.BuilderK
import Derived.SizedLaws
import Derived.Deep.DeepCutAuto
import Derived.Handy
import Derived.Laws.IdiomStrings
import Derived.Test.YtgfglefgpgckiaaDoorGLmLawZ1
namespace Go.Proofs
open Go.Shelf
shelf_lay Lays.n197 Nm 197 at Tryd as Tryd.lays197
namespace YtgfglefgpgckiaaDoor
namespace Lm
open Go Go.RowKit
def Tabs (w : World) : Prop := Lib.Utf8Tabs (Tryd.lays197_ren.g 3) (Tryd.lays197_ren.g 4) w
theorem Tabs.below {w w' : World} (h : Tabs w) (hb : Below w.heap.size w w') : Tabs w' := Utf8Tabs_below h hb
theorem decode_any (w : World) (s : ByteArray) (hT : Tabs w) :
    Calls Tryd.prog 48 #[.string s] w fun e w' => e = .returned (.tuple #[.int .i32 (Lib.decodeGo s).1, .int .i64 (Lib.decodeGo s).2]) ∧ Below w.heap.size w w' := Any.utf8_DecodeRuneInString Tryd.lays197 s w hT
end Lm
end YtgfglefgpgckiaaDoor
end Go.Proofs

namespace Go.Proofs.YtgfglefgpgckiaaDoor
namespace Lm
open Go Go.RowKit
theorem get!_out (s : ByteArray) (k : Nat) (h : s.size ≤ k) : (s.get! k).toNat = 0 := by
  cases s with
  | mk d =>
    have : d[k]! = default := getElem!_neg d k (by simpa [ByteArray.size] using h)
    show (d[k]!).toNat = 0
    rw [this]
    rfl
theorem decodeGo_at (s : ByteArray) (i : Nat) (h : i < s.size) : Lib.decodeGo (s.extract i s.size) = Utf8.decode s i := by
  have hsz : (s.extract i s.size).size = s.size - i := by rw [ByteArray.size_extract]; omega
  rw [Lib.decodeGo, if_neg (by omega), Lib.decode_at, Lib.decode_at, hsz]
  have key : ∀ k, ((s.extract i s.size).get! k).toNat = (s.get! (i + k)).toNat := by
    intro k
    by_cases hk : k < s.size - i
    · have h1 := get!_getD (s.extract i s.size) k (by omega)
      have h2 := get!_getD s (i + k) (by omega)
      rw [bytesOf_extract, List.getD_eq_getElem?_getD, List.getElem?_take_of_lt (by omega), List.getElem?_drop, ← List.getD_eq_getElem?_getD] at h1
      rw [h1] at h2
      exact_mod_cast h2
    · rw [get!_out _ _ (by omega), get!_out _ _ (by omega)]
  simp only [key, Nat.zero_add, Nat.add_zero, Nat.sub_zero]
theorem own_keep {w w' : World} {B : Nat} {e : TypeId} {size n : Nat} {v : Value} {xs : List Value} (h : w.ownsRow B e size v n xs) (hk : ∀ k o, B ≤ k → w.heap[k]? = some o → w'.heap[k]? = some o) : w'.ownsRow B e size v n xs := by
  obtain ⟨hl, h1 | ⟨g, cap, cur, rfl, hb, hh, h2⟩⟩ := h
  · exact ⟨hl, .inl h1⟩
  · exact ⟨hl, .inr ⟨g, cap, cur, rfl, hb, hk g _ hb hh, h2⟩⟩
theorem own_below {w w' : World} {B : Nat} {e : TypeId} {size n : Nat} {v : Value} {xs : List Value} (h : w.ownsRow B e size v n xs) (hb : Below w.heap.size w w') : w'.ownsRow B e size v n xs :=
  own_keep h fun k _ _ hk => (hb.block k (lt_of_heap hk)).trans hk
theorem own_mono {w : World} {B B' : Nat} {e : TypeId} {size n : Nat} {v : Value} {xs : List Value} (h : w.ownsRow B e size v n xs) (hB : B' ≤ B) : w.ownsRow B' e size v n xs := by
  obtain ⟨hl, h1 | ⟨g, cap, cur, rfl, hb, hh, h2⟩⟩ := h
  · exact ⟨hl, .inl h1⟩
  · exact ⟨hl, .inr ⟨g, cap, cur, rfl, Nat.le_trans hB hb, hh, h2⟩⟩
structure Sou (w wr : World) (s : ByteArray) (acc : List Gl) (p : Pl) (pos : Nat) (gv : Value) : Prop where
  own : wr.ownsRow (w.heap.size + 2) 46 6 gv acc.length (gflat acc)
  plc : PlB wr w.heap.size p
  itr : wr.heap[w.heap.size + 1]? = some (.stringIter s pos)
  bel : Below w.heap.size w wr
  siz : w.heap.size + 2 ≤ wr.heap.size
theorem Sou.below {w wr w' : World} {s : ByteArray} {acc : List Gl} {p : Pl} {pos : Nat} {v : Value} (h : Sou w wr s acc p pos v) (hb : Below wr.heap.size wr w') : Sou w w' s acc p pos v :=
  ⟨own_below h.own hb, h.plc.below hb, (hb.block _ (by have := h.siz; omega)).trans h.itr, h.bel.trans (hb.mono h.bel.size), Nat.le_trans h.siz hb.size⟩
theorem Sou.iterAt {w wr : World} {s : ByteArray} {acc : List Gl} {p : Pl} {pos : Nat} {v : Value} (h : Sou w wr s acc p pos v) (pos' : Nat) : Sou w (wr.iterAt (w.heap.size + 1) s pos') s acc p pos' v :=
  ⟨own_keep h.own fun k _ hk he => (Lib.iterAt_other wr _ k s pos' (by omega)).trans he, (Lib.iterAt_other wr _ _ s pos' (by omega)).trans h.plc, Lib.iterAt_heap wr _ s pos pos' h.itr, Lib.below_iterAt h.bel (by omega) s pos', by rw [Lib.iterAt_size]; exact h.siz⟩
theorem Sou.more {w wr w1 : World} {s : ByteArray} {acc : List Gl} {p : Pl} {pos : Nat} {v v' : Value} {g : Gl} (h : Sou w wr s acc p pos v) (hg : wr.grownBy w1 v.ownBlock) (hown : w1.ownsRow (w.heap.size + 2) 46 6 v' (acc ++ [g]).length (gflat (acc ++ [g]))) : Sou w w1 s (acc ++ [g]) p pos v' := by
  have hrow : ∀ k, k < w.heap.size + 2 → some k ≠ v.ownBlock := by
    intro k hk
    obtain ⟨hl, ⟨rfl, _⟩ | ⟨b, cap, cur, rfl, hb, _⟩⟩ := h.own
    · simp [Value.ownBlock]
    · simp only [Value.ownBlock, ne_eq, Option.some.injEq]
      omega
  have hz := h.siz
  exact ⟨hown, (hg.block _ (by omega) (hrow _ (by omega))).trans h.plc, (hg.block _ (by omega) (hrow _ (by omega))).trans h.itr, ⟨hg.os.trans h.bel.os, hg.tape.trans h.bel.tape, hg.output.trans h.bel.output, Nat.le_trans h.bel.size hg.size, fun k hk => (hg.block k (by omega) (hrow k (by omega))).trans (h.bel.block k hk)⟩, Nat.le_trans h.siz hg.size⟩
theorem Sou.place {w wr : World} {s : ByteArray} {acc : List Gl} {p p' : Pl} {pos : Nat} {v : Value} (h : Sou w wr s acc p pos v) : Sou w ((((wr.setCell ⟨w.heap.size, 0, none⟩ (.int .i64 p'.b)).setCell ⟨w.heap.size, 1, none⟩ (.int .i64 p'.g)).setCell ⟨w.heap.size, 2, none⟩ (.int .i64 p'.l)).setCell ⟨w.heap.size, 3, none⟩ (.int .i64 p'.c)) s acc p' pos v := by
  have ho : ∀ k, k ≠ w.heap.size → ((((wr.setCell ⟨w.heap.size, 0, none⟩ (.int .i64 p'.b)).setCell ⟨w.heap.size, 1, none⟩ (.int .i64 p'.g)).setCell ⟨w.heap.size, 2, none⟩ (.int .i64 p'.l)).setCell ⟨w.heap.size, 3, none⟩ (.int .i64 p'.c)).heap[k]? = wr.heap[k]? := by
    intro k hk
    rw [heap_setCell_other _ ⟨w.heap.size, 3, none⟩ k _ hk, heap_setCell_other _ ⟨w.heap.size, 2, none⟩ k _ hk, heap_setCell_other _ ⟨w.heap.size, 1, none⟩ k _ hk, heap_setCell_other _ ⟨w.heap.size, 0, none⟩ k _ hk]
  have hsz : ((((wr.setCell ⟨w.heap.size, 0, none⟩ (.int .i64 p'.b)).setCell ⟨w.heap.size, 1, none⟩ (.int .i64 p'.g)).setCell ⟨w.heap.size, 2, none⟩ (.int .i64 p'.l)).setCell ⟨w.heap.size, 3, none⟩ (.int .i64 p'.c)).heap.size = wr.heap.size := by simp [World.setCell]
  refine ⟨own_keep h.own fun k _ hk he => (ho k (by omega)).trans he, ?_, (ho _ (by omega)).trans h.itr, ⟨h.bel.os, h.bel.tape, h.bel.output, by rw [hsz]; exact h.bel.size, fun k hk => (ho k (by omega)).trans (h.bel.block k hk)⟩, by rw [hsz]; exact h.siz⟩
  unfold PlB
  rw [heap_setCell_same _ _ 3 _ _ _ (heap_setCell_same _ _ 2 _ _ _ (heap_setCell_same _ _ 1 _ _ _ (heap_setCell_same _ _ 0 _ _ _ h.plc)))]
  simp
theorem own_slice {w : World} {B : Nat} {e : TypeId} {size n : Nat} {v : Value} {xs : List Value} (h : w.ownsRow B e size v n xs) : ∃ ao cap, v = .slice ao n cap := by
  obtain ⟨hl, ⟨rfl, rfl⟩ | ⟨g, cap, cur, rfl, _⟩⟩ := h
  · exact ⟨_, _, rfl⟩
  · exact ⟨_, _, rfl⟩
theorem infoG : (Tryd.prog.info? 46).map (fun i => (i.zero, i.size, i.bytes)) = some (some (.agg #[.int .i64 0, .int .i64 0, .int .i64 0, .int .i64 0, .int .i64 0, .int .i64 0]), 6, 48) := by kernel_rfl
theorem info_is {P : Program} {e : TypeId} {z : Value} {n b : Nat} (h : (P.info? e).map (fun i => (i.zero, i.size, i.bytes)) = some (some z, n, b)) : ∃ i, P.info? e = some i ∧ i.zero = some z ∧ i.size = n ∧ i.bytes = b := by
  cases hi : P.info? e with
  | none => rw [hi] at h; cases h
  | some i =>
    rw [hi] at h
    simp only [Option.map_some, Option.some.injEq, Prod.mk.injEq] at h
    exact ⟨i, rfl, h.1, h.2.1, h.2.2⟩
theorem enters_class (args : Array Value) (w : World) : (callFunc 23 args).run Tryd.prog w = .ok (.enter 23 args) w := by
  have h : (match Tryd.prog.funcs[23]? with | some fn => !(fn.name == "runtime.NumGoroutine") && fn.body.isSome | none => false) = true := by kernel_rfl
  cases hf : Tryd.prog.funcs[23]? with
  | none => rw [hf] at h; simp at h
  | some fn =>
    rw [hf] at h
    simp only [Bool.and_eq_true, Bool.not_eq_true', beq_eq_false_iff_ne] at h
    obtain ⟨h1, h2⟩ := h
    have h3 : fn.body ≠ none := by intro hb; rw [hb] at h2; simp at h2
    simp [callFunc, hf, h1, h3]
theorem step_class {ops : Array Oper} {o : Oper} {a : Act} {w : World} {K : Act → World → Prop} {Q : Exit → Act → World → Prop} {E : Prop} (hg : o.guard = none) (x : Operand) (ats : Array TypeId)
    (hop : o.op = .call { callee := .value (.func 23), args := #[x], argTypes := ats }) (c : Int) (hx : a.eval x = .int .i64 c) (hK : K (a.put o.dst (.int .i64 (gcls c))) w) :
    if Region.wanted o (yielded ops a.tmps) = true then Oper.wp Tryd.prog o a w K Q else E := by
  obtain ⟨dst, op, ty, pos, after, guard⟩ := o
  simp only at hop hg
  subst hop hg
  have hw : Region.wanted { dst, op := .call { callee := .value (.func 23), args := #[x], argTypes := ats }, type := ty, pos, after, guard := none } (yielded ops a.tmps) = true := by simp [Region.wanted]
  rw [if_pos hw]
  have e : execOp a.eval { dst, op := .call { callee := .value (.func 23), args := #[x], argTypes := ats }, type := ty, pos, after, guard := none } = callFunc 23 (#[] ++ #[x].map a.eval ++ #[]) := rfl
  unfold Oper.wp
  rw [e, enters_class]
  simp only [Oper.upon]
  have e2 : (#[] ++ #[x].map a.eval ++ #[] : Array Value) = #[.int .i64 c] := by simp [hx]
  rw [e2]
  refine (gcls_any w c).mono ?_
  rintro r w' ⟨rfl, rfl⟩
  exact hK
set_option maxRecDepth 20000 in
set_option maxHeartbeats 2000000 in
theorem sound_any (w : World) (s : ByteArray) (hT : Tabs w) (hs : s.size ≤ 4096) :
    Calls Tryd.prog 27 #[.string s] w fun r w' => ∃ gs e v, Snd s pl0 gs e ∧ r = .returned (.tuple #[v, e.v]) ∧ w'.ownsRow (w.heap.size + 2) 46 6 v gs.length (gflat gs) ∧ Below w.heap.size w w' := by
  go_enter Tryd.func27, Tryd.ntmps27
  go_wp2
  have hS0 : Sou w ((w.alloc (.cells #[.int .i64 0, .int .i64 0, .int .i64 1, .int .i64 1] 25)).iter s 0) s [] pl0 0 (.slice none 0 0) := by
    refine ⟨World.ownsRow_nil _ _ _ _, ?_, ?_, ?_, ?_⟩
    · exact ((Below.refl (w.alloc _).heap.size (w.alloc _)).alloc (Nat.le_refl _) (.stringIter s 0)).block w.heap.size (by simp [World.size_alloc]) |>.trans (heap_alloc_new w _)
    · have := World.iter_heap (w.alloc (.cells #[.int .i64 0, .int .i64 0, .int .i64 1, .int .i64 1] 25)) s 0
      rw [World.size_alloc] at this
      exact this
    · exact ((Below.refl _ _).alloc (Nat.le_refl _) _).alloc (by simp [World.size_alloc]) (.stringIter s 0)
    · show w.heap.size + 2 ≤ ((w.alloc _).alloc (.stringIter s 0)).heap.size
      simp [World.size_alloc]
  generalize (w.alloc (.cells #[.int .i64 0, .int .i64 0, .int .i64 1, .int .i64 1] 25)).iter s 0 = w0 at hS0 ⊢
  have HS0 := hide hS0
  have HT := hide hT
  clear hS0 hT
  go_loopw [2] (fun gv wr => ∃ (acc : List Gl) (p : Pl) (ao : Option Addr) (cap : Nat), gv = .slice ao acc.length cap ∧ Sou w wr s acc p p.b (.slice ao acc.length cap) ∧ p.ok ∧ p.b ≤ s.size ∧ acc.length ≤ p.b ∧ ∀ gs e, Snd s p gs e → Snd s pl0 (acc ++ gs) e) (fun _ wr => s.size - wr.iterPos (w.heap.size + 1))
  case atStart => exact ⟨[], pl0, none, 0, rfl, HS0.out, pl0_ok, Nat.zero_le _, Nat.zero_le _, fun gs e h => h⟩
  case round =>
    obtain ⟨acc, p, ao, cap, rfl, hS, hp, hpb, hal, hpre⟩ := hrel
    have HS := hide hS
    have HP := hide hp
    have HE := hide hpre
    have IP : Hid (wr.iterPos (w.heap.size + 1) = p.b) := by show _ = _; unfold World.iterPos; rw [hS.itr]
    clear hS hp hpre
    by_cases hlt : p.b < s.size
    · have hnext := fun ty => Lib.run_next_any_at (P := Tryd.prog) wr (w.heap.size + 1) s p.b ty HS.out.itr hlt
      have hd := dec_le s p.b hlt
      have htop := dec_top s p.b
      have HDG := hide (decodeGo_at s p.b hlt)
      have HS1 := hide (HS.out.iterAt (p.b + (Utf8.decode s p.b).2))
      have HSG := hide (fun gs e => Snd.go p gs e hlt)
      generalize hdc : Utf8.decode s p.b = dc at *
      have HDC := hide hdc
      clear hdc
      obtain ⟨c, z⟩ := dc
      simp only at hd htop hnext
      generalize wr.iterAt (w.heap.size + 1) s (p.b + z) = w1 at HS1 hnext
      have hlt' : (p.b : Int) < (s.size : Int) := by omega
      go_wp2_with fail
      refine (decode_any _ _ (HT.out.below HS1.out.bel)).mono ?_
      rintro r w2 ⟨rfl, hb2⟩
      rw [HDG.out]
      have HS2 := hide (HS1.out.below hb2)
      clear hb2 hnext HS1
      by_cases hbad : (c, z) = (65533, 1)
      · obtain ⟨rfl, rfl⟩ := Prod.mk.inj hbad
        obtain ⟨hf, p0, p1, p2, p3⟩ := HS2.out.plc.cells
        have f0 := frozen_of_row w2 w.heap.size 0 _ _ HS2.out.plc
        have f1 := frozen_of_row w2 w.heap.size 1 _ _ HS2.out.plc
        have f2 := frozen_of_row w2 w.heap.size 2 _ _ HS2.out.plc
        have f3 := frozen_of_row w2 w.heap.size 3 _ _ HS2.out.plc
        go_wp2_with fail
        go_region
        go_wp2
        refine bodyPost_ret (v := _) (by simp [results, Tryd.results27, go_sem, p0, p1, p2, p3]; try rfl) rfl ⟨acc, p, _, ?_, rfl, ((HS2.out.place (p' := p)).below (by (repeat' (first | (with_reducible exact Below.refl _ _) | (with_reducible assumption) | (with_reducible refine gdrewN ?_ _) | (with_reducible refine Below.alloc ?_ ?_ _) | (with_reducible refine Below.drew ?_) | (with_reducible refine Below.setCell ?_ ?_ _) | go_size)))).own, ((HS2.out.place (p' := p)).below (by (repeat' (first | (with_reducible exact Below.refl _ _) | (with_reducible assumption) | (with_reducible refine gdrewN ?_ _) | (with_reducible refine Below.alloc ?_ ?_ _) | (with_reducible refine Below.drew ?_) | (with_reducible refine Below.setCell ?_ ?_ _) | go_size)))).bel⟩
        have := HE.out [] p (.stop p (.inr ⟨hlt, HDC.out⟩))
        rwa [List.append_nil] at this
      · by_cases h1 : c = 65533
        · subst h1
          have e2 : ((z : Int) == 1) = false := beq_eq_false_iff_ne.2 (by intro hz; exact hbad (by rw [show z = 1 from by omega]))
          obtain ⟨i0, hi0, hz0, hz1, hz2⟩ := info_is infoG
          obtain ⟨hf, p0, p1, p2, p3⟩ := HS2.out.plc.cells
          have hown := HS2.out.own
          have hsz := HS2.out.siz
          have hone : ∀ u ∈ ([.int .i64 65533, .int .i64 (gcls 65533), .int .i64 p.b, .int .i64 p.g, .int .i64 p.l, .int .i64 p.c] : List Value), u.oneCell' = true := by
            intro u hu
            simp only [List.mem_cons, List.not_mem_nil, or_false] at hu
            rcases hu with rfl | rfl | rfl | rfl | rfl | rfl <;> rfl
          go_wp2_with fail
          go_region_law (first | (refine step_class rfl (.tmp 35) #[3] rfl (65533 : Int) (by simp [Act.eval, Act.put]) ?_) | (refine step_append_lies _ rfl (.tmp 33) (.tmp 39) 42 rfl (w.heap.size + 2) 46 i0 _ 6 48 Tryd.underlying42 hi0 hz0 hz1 hz2 rfl (by decide) (.slice ao acc.length cap) acc.length (gflat acc) (by simp [Act.eval]) (own_below hown ((Below.refl _ _).alloc (Nat.le_refl _) _).drew) ⟨w2.heap.size, 0, none⟩ 1 1 [.int .i64 65533, .int .i64 (gcls 65533), .int .i64 p.b, .int .i64 p.g, .int .i64 p.l, .int .i64 p.c] (by simp [Act.eval]) rfl (World.news_of_block (w := (w2.alloc (.cells #[.int .i64 65533, .int .i64 (gcls 65533), .int .i64 p.b, .int .i64 p.g, .int .i64 p.l, .int .i64 p.c] 46)).drew) (heap_alloc_new w2 _)) hone (by omega) (by unfold maxLen; omega) (by omega) (by simp; omega) _ rfl ?_; intro g1 cap1 w3 hown3 hgrow3 hat3 hlt3))
          all_goals
            have HS3 := hide ((HS2.out.below (((Below.refl _ _).alloc (Nat.le_refl _) _).drew)).more (g := ⟨65533, p⟩) hgrow3 (by simpa [gflat_append, gflat] using hown3))
            clear hown3 hgrow3 hat3 hlt3 p0 p1 p2 p3 hf hown hsz hone hi0 hz0 hz1 hz2
            obtain ⟨hf, p0, p1, p2, p3⟩ := HS3.out.plc.cells
            go_wp2_with fail
            refine (behind_any w3 p 65533 z (by have := HP.out.g; have := HP.out.l; have := HP.out.c; omega)).mono ?_
            rintro r w4 ⟨rfl, hb4⟩
            have HS4 := hide (HS3.out.below hb4)
            clear hb4 p0 p1 p2 p3 hf HS3 HS2
            generalize hpp : p.past 65533 z = p' at HS4 ⊢
            have HPP := hide hpp
            clear hpp
            unfold Pl.v
            obtain ⟨hf, p0, p1, p2, p3⟩ := HS4.out.plc.cells
            have f0 := frozen_of_row w4 w.heap.size 0 _ _ HS4.out.plc
            have f1 := frozen_of_row w4 w.heap.size 1 _ _ HS4.out.plc
            have f2 := frozen_of_row w4 w.heap.size 2 _ _ HS4.out.plc
            have f3 := frozen_of_row w4 w.heap.size 3 _ _ HS4.out.plc
            have IP4 := hide ((HS4.out.place (p' := p')).itr)
            go_wp2
            go_roundw
            case rel =>
              have hb' : p'.b = p.b + z := by rw [← HPP.out]; rfl
              refine ⟨acc ++ [⟨65533, p⟩], p', some ⟨g1, 0, none⟩, cap1, by simp, ?_, by rw [← HPP.out]; exact HP.out.past _ _ hd.1, by omega, by simp; omega, ?_⟩
              · have := HS4.out.place (p' := p')
                rw [← hb'] at this
                simpa using this
              · intro gs e h
                rw [List.append_assoc]
                refine HE.out _ _ ?_
                exact HSG.out gs e hbad (by rw [← HPP.out] at h; exact h)
            case measure =>
              rw [IP.out]
              unfold World.iterPos
              rw [IP4.out]
              simp only
              omega
        · have e1 : ((c : Int) == 65533) = false := beq_eq_false_iff_ne.2 (by omega)
          obtain ⟨i0, hi0, hz0, hz1, hz2⟩ := info_is infoG
          obtain ⟨hf, p0, p1, p2, p3⟩ := HS2.out.plc.cells
          have hown := HS2.out.own
          have hsz := HS2.out.siz
          have hone : ∀ u ∈ ([.int .i64 c, .int .i64 (gcls c), .int .i64 p.b, .int .i64 p.g, .int .i64 p.l, .int .i64 p.c] : List Value), u.oneCell' = true := by
            intro u hu
            simp only [List.mem_cons, List.not_mem_nil, or_false] at hu
            rcases hu with rfl | rfl | rfl | rfl | rfl | rfl <;> rfl
          go_wp2_with fail
          go_region_law (first | (refine step_class rfl (.tmp 35) #[3] rfl (c : Int) (by simp [Act.eval, Act.put]) ?_) | (refine step_append_lies _ rfl (.tmp 33) (.tmp 39) 42 rfl (w.heap.size + 2) 46 i0 _ 6 48 Tryd.underlying42 hi0 hz0 hz1 hz2 rfl (by decide) (.slice ao acc.length cap) acc.length (gflat acc) (by simp [Act.eval]) (own_below hown ((Below.refl _ _).alloc (Nat.le_refl _) _).drew) ⟨w2.heap.size, 0, none⟩ 1 1 [.int .i64 c, .int .i64 (gcls c), .int .i64 p.b, .int .i64 p.g, .int .i64 p.l, .int .i64 p.c] (by simp [Act.eval]) rfl (World.news_of_block (w := (w2.alloc (.cells #[.int .i64 c, .int .i64 (gcls c), .int .i64 p.b, .int .i64 p.g, .int .i64 p.l, .int .i64 p.c] 46)).drew) (heap_alloc_new w2 _)) hone (by omega) (by unfold maxLen; omega) (by omega) (by simp; omega) _ rfl ?_; intro g1 cap1 w3 hown3 hgrow3 hat3 hlt3))
          all_goals
            have HS3 := hide ((HS2.out.below (((Below.refl _ _).alloc (Nat.le_refl _) _).drew)).more (g := ⟨c, p⟩) hgrow3 (by simpa [gflat_append, gflat] using hown3))
            clear hown3 hgrow3 hat3 hlt3 p0 p1 p2 p3 hf hown hsz hone hi0 hz0 hz1 hz2
            obtain ⟨hf, p0, p1, p2, p3⟩ := HS3.out.plc.cells
            go_wp2_with fail
            refine (behind_any w3 p c z (by have := HP.out.g; have := HP.out.l; have := HP.out.c; omega)).mono ?_
            rintro r w4 ⟨rfl, hb4⟩
            have HS4 := hide (HS3.out.below hb4)
            clear hb4 p0 p1 p2 p3 hf HS3 HS2
            generalize hpp : p.past c z = p' at HS4 ⊢
            have HPP := hide hpp
            clear hpp
            unfold Pl.v
            obtain ⟨hf, p0, p1, p2, p3⟩ := HS4.out.plc.cells
            have f0 := frozen_of_row w4 w.heap.size 0 _ _ HS4.out.plc
            have f1 := frozen_of_row w4 w.heap.size 1 _ _ HS4.out.plc
            have f2 := frozen_of_row w4 w.heap.size 2 _ _ HS4.out.plc
            have f3 := frozen_of_row w4 w.heap.size 3 _ _ HS4.out.plc
            have IP4 := hide ((HS4.out.place (p' := p')).itr)
            go_wp2
            go_roundw
            case rel =>
              have hb' : p'.b = p.b + z := by rw [← HPP.out]; rfl
              refine ⟨acc ++ [⟨c, p⟩], p', some ⟨g1, 0, none⟩, cap1, by simp, ?_, by rw [← HPP.out]; exact HP.out.past _ _ hd.1, by omega, by simp; omega, ?_⟩
              · have := HS4.out.place (p' := p')
                rw [← hb'] at this
                simpa using this
              · intro gs e h
                rw [List.append_assoc]
                refine HE.out _ _ ?_
                exact HSG.out gs e hbad (by rw [← HPP.out] at h; exact h)
            case measure =>
              rw [IP.out]
              unfold World.iterPos
              rw [IP4.out]
              simp only
              omega
    · have hnext := fun ty => Lib.run_next_end_at (P := Tryd.prog) wr (w.heap.size + 1) s p.b ty HS.out.itr (by omega)
      obtain ⟨hf, p0, p1, p2, p3⟩ := HS.out.plc.cells
      have f0 := frozen_of_row wr w.heap.size 0 _ _ HS.out.plc
      have f1 := frozen_of_row wr w.heap.size 1 _ _ HS.out.plc
      have f2 := frozen_of_row wr w.heap.size 2 _ _ HS.out.plc
      have f3 := frozen_of_row wr w.heap.size 3 _ _ HS.out.plc
      have hlt' : ¬ (p.b : Int) < (s.size : Int) := by omega
      go_wp2_with fail
      go_region
      go_wp2
      refine bodyPost_ret (v := _) (by simp [results, Tryd.results27, go_sem, p0, p1, p2, p3]; try rfl) rfl ⟨acc, p, _, ?_, rfl, ((HS.out.place (p' := p)).below (by (repeat' (first | (with_reducible exact Below.refl _ _) | (with_reducible assumption) | (with_reducible refine gdrewN ?_ _) | (with_reducible refine Below.alloc ?_ ?_ _) | (with_reducible refine Below.drew ?_) | (with_reducible refine Below.setCell ?_ ?_ _) | go_size)))).own, ((HS.out.place (p' := p)).below (by (repeat' (first | (with_reducible exact Below.refl _ _) | (with_reducible assumption) | (with_reducible refine gdrewN ?_ _) | (with_reducible refine Below.alloc ?_ ?_ _) | (with_reducible refine Below.drew ?_) | (with_reducible refine Below.setCell ?_ ?_ _) | go_size)))).bel⟩
      have := HE.out [] p (.stop p (.inl (by omega)))
      rwa [List.append_nil] at this
end Lm
end Go.Proofs.YtgfglefgpgckiaaDoor

namespace Go.Proofs.YtgfglefgpgckiaaDoor
namespace Lm
open Go Go.RowKit
def ptS (s : ByteArray) (i : Nat) : Nat × Nat := if Utf8.decode s i = (65533, 1) then (0, 0) else Utf8.decode s i
theorem ptS_bad {s : ByteArray} {i : Nat} (h : Utf8.decode s i = (65533, 1)) : ptS s i = (0, 0) := by unfold ptS; rw [if_pos h]
theorem ptS_ok {s : ByteArray} {i : Nat} {c k : Nat} (h : Utf8.decode s i = (c, k)) (hn : (c, k) ≠ (65533, 1)) : ptS s i = (c, k) := by unfold ptS; rw [h, if_neg hn]
theorem getS2 (S : ByteArray) (i : Nat) (h : i < S.size) : (S[i]'h).toNat = (S.get! i).toNat := by rw [getS S i h]
theorem decN_a {n b0 b1 b2 b3 : Nat} (h : b0 < 128) : Lib.decodeN n b0 b1 b2 b3 = (b0, 1) := by
  unfold Lib.decodeN; rw [if_pos h]
theorem decN_z {n b0 b1 b2 b3 : Nat} (h0 : (128 ≤ b0 ∧ b0 ≤ 191) ∨ 248 ≤ b0) (h1 : b0 < 256) : Lib.decodeN n b0 b1 b2 b3 = (65533, 1) := by
  unfold Lib.decodeN; rw [if_neg (by omega), if_neg (by omega), if_neg (by omega), if_neg (by omega)]
theorem decN_2 {n b0 b1 b2 b3 : Nat} (h0 : 192 ≤ b0 ∧ b0 ≤ 223) (h : ¬ (1 < n ∧ 128 ≤ b1 ∧ b1 ≤ 191)) : Lib.decodeN n b0 b1 b2 b3 = (65533, 1) := by
  unfold Lib.decodeN; rw [if_neg (by omega), if_neg (by omega), if_neg (by omega), if_neg (by omega)]
theorem decN_2v {n b0 b1 b2 b3 : Nat} (h0 : 192 ≤ b0 ∧ b0 ≤ 223) (h : 1 < n ∧ 128 ≤ b1 ∧ b1 ≤ 191) : Lib.decodeN n b0 b1 b2 b3 = if (b0 - 192) * 64 + (b1 - 128) ≥ 128 then ((b0 - 192) * 64 + (b1 - 128), 2) else (65533, 1) := by
  unfold Lib.decodeN; rw [if_neg (by omega), if_pos (by omega), show b0 % 32 = b0 - 192 from by omega, show b1 % 64 = b1 - 128 from by omega]
theorem decN_3 {n b0 b1 b2 b3 : Nat} (h0 : 224 ≤ b0 ∧ b0 ≤ 239) (h : ¬ ((1 < n ∧ 128 ≤ b1 ∧ b1 ≤ 191) ∧ (2 < n ∧ 128 ≤ b2 ∧ b2 ≤ 191))) : Lib.decodeN n b0 b1 b2 b3 = (65533, 1) := by
  unfold Lib.decodeN; rw [if_neg (by omega), if_neg (by omega), if_neg (by omega), if_neg (by omega)]
theorem decN_3v {n b0 b1 b2 b3 : Nat} (h0 : 224 ≤ b0 ∧ b0 ≤ 239) (h1 : 1 < n ∧ 128 ≤ b1 ∧ b1 ≤ 191) (h2 : 2 < n ∧ 128 ≤ b2 ∧ b2 ≤ 191) : Lib.decodeN n b0 b1 b2 b3 = if (b0 - 224) * 4096 + (b1 - 128) * 64 + (b2 - 128) ≥ 2048 ∧ ((b0 - 224) * 4096 + (b1 - 128) * 64 + (b2 - 128) < 55296 ∨ (57344 ≤ (b0 - 224) * 4096 + (b1 - 128) * 64 + (b2 - 128) ∧ (b0 - 224) * 4096 + (b1 - 128) * 64 + (b2 - 128) ≤ 1114111)) then ((b0 - 224) * 4096 + (b1 - 128) * 64 + (b2 - 128), 3) else (65533, 1) := by
  unfold Lib.decodeN; rw [if_neg (by omega), if_neg (by omega), if_pos (by omega), show b0 % 16 = b0 - 224 from by omega, show b1 % 64 = b1 - 128 from by omega, show b2 % 64 = b2 - 128 from by omega]
theorem decN_4 {n b0 b1 b2 b3 : Nat} (h0 : 240 ≤ b0 ∧ b0 ≤ 247) (h : ¬ ((1 < n ∧ 128 ≤ b1 ∧ b1 ≤ 191) ∧ (2 < n ∧ 128 ≤ b2 ∧ b2 ≤ 191) ∧ (3 < n ∧ 128 ≤ b3 ∧ b3 ≤ 191))) : Lib.decodeN n b0 b1 b2 b3 = (65533, 1) := by
  unfold Lib.decodeN; rw [if_neg (by omega), if_neg (by omega), if_neg (by omega), if_neg (by omega)]
theorem decN_4v {n b0 b1 b2 b3 : Nat} (h0 : 240 ≤ b0 ∧ b0 ≤ 247) (h1 : 1 < n ∧ 128 ≤ b1 ∧ b1 ≤ 191) (h2 : 2 < n ∧ 128 ≤ b2 ∧ b2 ≤ 191) (h3 : 3 < n ∧ 128 ≤ b3 ∧ b3 ≤ 191) : Lib.decodeN n b0 b1 b2 b3 = if (b0 - 240) * 262144 + (b1 - 128) * 4096 + (b2 - 128) * 64 + (b3 - 128) ≥ 65536 ∧ ((b0 - 240) * 262144 + (b1 - 128) * 4096 + (b2 - 128) * 64 + (b3 - 128) < 55296 ∨ (57344 ≤ (b0 - 240) * 262144 + (b1 - 128) * 4096 + (b2 - 128) * 64 + (b3 - 128) ∧ (b0 - 240) * 262144 + (b1 - 128) * 4096 + (b2 - 128) * 64 + (b3 - 128) ≤ 1114111)) then ((b0 - 240) * 262144 + (b1 - 128) * 4096 + (b2 - 128) * 64 + (b3 - 128), 4) else (65533, 1) := by
  unfold Lib.decodeN; rw [if_neg (by omega), if_neg (by omega), if_neg (by omega), if_pos (by omega), show b0 % 8 = b0 - 240 from by omega, show b1 % 64 = b1 - 128 from by omega, show b2 % 64 = b2 - 128 from by omega, show b3 % 64 = b3 - 128 from by omega]
theorem point_any (w : World) (s : ByteArray) (i : Nat) (h : i < s.size) (hm : s.size ≤ 100000) :
    Calls Tryd.prog 60 #[.string s, .int .i64 i] w fun e w' => e = .returned (.tuple #[.int .i64 (ptS s i).1, .int .i64 (ptS s i).2]) ∧ w' = w := by
  have hd := Lib.decode_at s i
  have e0 := getS2 s i h
  have e1 := fun (k : i + 1 < s.size) => getS2 s (i + 1) k
  have e2 := fun (k : i + 2 < s.size) => getS2 s (i + 2) k
  have e3 := fun (k : i + 3 < s.size) => getS2 s (i + 3) k
  have u0 : (s.get! i).toNat < 256 := UInt8.toNat_lt _
  generalize (s.get! i).toNat = b0 at hd e0 u0
  generalize (s.get! (i + 1)).toNat = b1 at hd e1
  generalize (s.get! (i + 2)).toNat = b2 at hd e2
  generalize (s.get! (i + 3)).toNat = b3 at hd e3
  by_cases ha : b0 < 128
  · rw [ptS_ok (hd.trans (decN_a ha)) (by intro he; injection he with q1 q2; omega)]
    exact pt_a w s i b0 h hm e0 ha
  by_cases hz : (128 ≤ b0 ∧ b0 ≤ 191) ∨ 248 ≤ b0
  · rw [ptS_bad (hd.trans (decN_z hz u0))]
    exact pt_z w s i b0 h hm e0 hz
  by_cases r2 : b0 ≤ 223
  · have g : 192 ≤ b0 ∧ b0 ≤ 223 := by omega
    by_cases s1 : i + 1 < s.size
    · by_cases c1 : 128 ≤ b1 ∧ b1 ≤ 191
      · have hv := hd.trans (decN_2v g ⟨by omega, c1⟩)
        by_cases v1 : (b0 - 192) * 64 + (b1 - 128) ≥ 128
        · rw [if_pos v1] at hv
          rw [ptS_ok hv (by intro he; injection he with q1 q2; omega)]
          exact pt2_ok w s i b0 h hm e0 g b1 s1 (e1 s1) c1 v1
        · rw [if_neg v1] at hv
          rw [ptS_bad hv]
          exact pt2_low w s i b0 h hm e0 g b1 s1 (e1 s1) c1 (by omega)
      · rw [ptS_bad (hd.trans (decN_2 g (by omega)))]
        exact pt2_bad1 w s i b0 h hm e0 g b1 s1 (e1 s1) (by omega)
    · rw [ptS_bad (hd.trans (decN_2 g (by omega)))]
      exact pt2_short1 w s i b0 h hm e0 g (by omega)
  by_cases r3 : b0 ≤ 239
  · have g : 224 ≤ b0 ∧ b0 ≤ 239 := by omega
    by_cases s1 : i + 1 < s.size
    · by_cases c1 : 128 ≤ b1 ∧ b1 ≤ 191
      · by_cases s2 : i + 2 < s.size
        · by_cases c2 : 128 ≤ b2 ∧ b2 ≤ 191
          · have hv := hd.trans (decN_3v g ⟨by omega, c1⟩ ⟨by omega, c2⟩)
            by_cases v1 : (b0 - 224) * 4096 + (b1 - 128) * 64 + (b2 - 128) ≥ 2048
            · by_cases v2 : 55296 ≤ (b0 - 224) * 4096 + (b1 - 128) * 64 + (b2 - 128) ∧ (b0 - 224) * 4096 + (b1 - 128) * 64 + (b2 - 128) ≤ 57343
              · rw [if_neg (by omega)] at hv
                rw [ptS_bad hv]
                exact pt3_sur w s i b0 h hm e0 g b1 s1 (e1 s1) c1 b2 s2 (e2 s2) c2 v2
              · rw [if_pos (by omega)] at hv
                rw [ptS_ok hv (by intro he; injection he with q1 q2; omega)]
                exact pt3_ok w s i b0 h hm e0 g b1 s1 (e1 s1) c1 b2 s2 (e2 s2) c2 v1 (by omega)
            · rw [if_neg (by omega)] at hv
              rw [ptS_bad hv]
              exact pt3_low w s i b0 h hm e0 g b1 s1 (e1 s1) c1 b2 s2 (e2 s2) c2 (by omega)
          · rw [ptS_bad (hd.trans (decN_3 g (by omega)))]
            exact pt3_bad2 w s i b0 h hm e0 g b1 s1 (e1 s1) c1 b2 s2 (e2 s2) (by omega)
        · rw [ptS_bad (hd.trans (decN_3 g (by omega)))]
          exact pt3_short2 w s i b0 h hm e0 g b1 s1 (e1 s1) c1 (by omega)
      · rw [ptS_bad (hd.trans (decN_3 g (by omega)))]
        exact pt3_bad1 w s i b0 h hm e0 g b1 s1 (e1 s1) (by omega)
    · rw [ptS_bad (hd.trans (decN_3 g (by omega)))]
      exact pt3_short1 w s i b0 h hm e0 g (by omega)
  · have g : 240 ≤ b0 ∧ b0 ≤ 247 := by omega
    by_cases s1 : i + 1 < s.size
    · by_cases c1 : 128 ≤ b1 ∧ b1 ≤ 191
      · by_cases s2 : i + 2 < s.size
        · by_cases c2 : 128 ≤ b2 ∧ b2 ≤ 191
          · by_cases s3 : i + 3 < s.size
            · by_cases c3 : 128 ≤ b3 ∧ b3 ≤ 191
              · have hv := hd.trans (decN_4v g ⟨by omega, c1⟩ ⟨by omega, c2⟩ ⟨by omega, c3⟩)
                by_cases v1 : (b0 - 240) * 262144 + (b1 - 128) * 4096 + (b2 - 128) * 64 + (b3 - 128) ≥ 65536
                · by_cases v2 : (b0 - 240) * 262144 + (b1 - 128) * 4096 + (b2 - 128) * 64 + (b3 - 128) ≤ 1114111
                  · rw [if_pos (by omega)] at hv
                    rw [ptS_ok hv (by intro he; injection he with q1 q2; omega)]
                    exact pt4_ok w s i b0 h hm e0 g b1 s1 (e1 s1) c1 b2 s2 (e2 s2) c2 b3 s3 (e3 s3) c3 ⟨v1, v2⟩
                  · rw [if_neg (by omega)] at hv
                    rw [ptS_bad hv]
                    exact pt4_high w s i b0 h hm e0 g b1 s1 (e1 s1) c1 b2 s2 (e2 s2) c2 b3 s3 (e3 s3) c3 (by omega)
                · rw [if_neg (by omega)] at hv
                  rw [ptS_bad hv]
                  exact pt4_low w s i b0 h hm e0 g b1 s1 (e1 s1) c1 b2 s2 (e2 s2) c2 b3 s3 (e3 s3) c3 (by omega)
              · rw [ptS_bad (hd.trans (decN_4 g (by omega)))]
                exact pt4_bad3 w s i b0 h hm e0 g b1 s1 (e1 s1) c1 b2 s2 (e2 s2) c2 b3 s3 (e3 s3) (by omega)
            · rw [ptS_bad (hd.trans (decN_4 g (by omega)))]
              exact pt4_short3 w s i b0 h hm e0 g b1 s1 (e1 s1) c1 b2 s2 (e2 s2) c2 (by omega)
          · rw [ptS_bad (hd.trans (decN_4 g (by omega)))]
            exact pt4_bad2 w s i b0 h hm e0 g b1 s1 (e1 s1) c1 b2 s2 (e2 s2) (by omega)
        · rw [ptS_bad (hd.trans (decN_4 g (by omega)))]
          exact pt4_short2 w s i b0 h hm e0 g b1 s1 (e1 s1) c1 (by omega)
      · rw [ptS_bad (hd.trans (decN_4 g (by omega)))]
        exact pt4_bad1 w s i b0 h hm e0 g b1 s1 (e1 s1) (by omega)
    · rw [ptS_bad (hd.trans (decN_4 g (by omega)))]
      exact pt4_short1 w s i b0 h hm e0 g (by omega)
end Lm
end Go.Proofs.YtgfglefgpgckiaaDoor

namespace Go.Proofs.YtgfglefgpgckiaaDoor
namespace Lm
open Go Go.RowKit
def Rdr (w : World) (q : Nat) (s : ByteArray) (p : Pl) : Prop := w.heap[q]? = some (.cells #[.string s, .int .i64 p.b, .int .i64 p.g, .int .i64 p.l, .int .i64 p.c] 58 (0, 0))
theorem Rdr.below {w w' : World} {q : Nat} {s : ByteArray} {p : Pl} (h : Rdr w q s p) (hb : Below w.heap.size w w') : Rdr w' q s p := (hb.block q (lt_of_heap h)).trans h
structure RdrC (w : World) (q : Nat) (s : ByteArray) (p : Pl) : Prop where
  hq : q < w.heap.size
  k0 : w.cell? ⟨q, 0, none⟩ = some (.string s)
  k1 : w.cell? ⟨q, 1, none⟩ = some (.int .i64 p.b)
  k2 : w.cell? ⟨q, 2, none⟩ = some (.int .i64 p.g)
  k3 : w.cell? ⟨q, 3, none⟩ = some (.int .i64 p.l)
  k4 : w.cell? ⟨q, 4, none⟩ = some (.int .i64 p.c)
  f1 : w.frozen? ⟨q, 1, none⟩ = false
  f2 : w.frozen? ⟨q, 2, none⟩ = false
  f3 : w.frozen? ⟨q, 3, none⟩ = false
  f4 : w.frozen? ⟨q, 4, none⟩ = false
theorem Rdr.cells {w : World} {q : Nat} {s : ByteArray} {p : Pl} (h : Rdr w q s p) : RdrC w q s p := by
  exact ⟨lt_of_heap h, by rw [cell_of_row w q 0 _ _ _ h]; rfl, by rw [cell_of_row w q 1 _ _ _ h]; rfl, by rw [cell_of_row w q 2 _ _ _ h]; rfl, by rw [cell_of_row w q 3 _ _ _ h]; rfl, by rw [cell_of_row w q 4 _ _ _ h]; rfl, frozen_of_row w q 1 _ _ h, frozen_of_row w q 2 _ _ h, frozen_of_row w q 3 _ _ h, frozen_of_row w q 4 _ _ h⟩
def rpos (w : World) (q : Nat) : Nat := match w.cell? ⟨q, 1, none⟩ with | some (.int _ z) => z.toNat | _ => 0
theorem Rdr.pos {w : World} {q : Nat} {s : ByteArray} {p : Pl} (h : Rdr w q s p) : rpos w q = p.b := by
  unfold rpos
  rw [h.cells.k1]
  simp
theorem begin_any (w : World) (s : ByteArray) :
    Calls Tryd.prog 24 #[.string s] w fun r w' => ∃ q, w.heap.size ≤ q ∧ r = .returned (.pointer (some ⟨q, 0, none⟩)) ∧ Rdr w' q s pl0 ∧ Below w.heap.size w w' := by
  go_enter Tryd.func24, Tryd.ntmps24
  go_wp2
  go_ret
  exact ⟨w.heap.size, Nat.le_refl _, rfl, heap_alloc_new w _, (Below.refl _ _).alloc (Nat.le_refl _) _⟩
set_option maxRecDepth 20000 in
set_option maxHeartbeats 400000 in
theorem end_any (w : World) (q : Nat) (s : ByteArray) (p : Pl) (h : Rdr w q s p) :
    Calls Tryd.prog 59 #[.pointer (some ⟨q, 0, none⟩)] w fun r w' => r = .returned (.bool (decide (s.size ≤ p.b))) ∧ Below w.heap.size w w' := by
  obtain ⟨hq, k0, k1, k2, k3, k4, f1, f2, f3, f4⟩ := h.cells
  clear h
  have hde : decide ((s.size : Int) ≤ (p.b : Int)) = decide (s.size ≤ p.b) := by simp
  go_enter Tryd.func59, Tryd.ntmps59
  go_wp2_with fail
  go_quiet (fail)
  go_wp2
  go_ret
  refine ⟨by simp, ?_⟩
  (repeat' (first | (with_reducible exact Below.refl _ _) | (with_reducible assumption) | (with_reducible refine gdrewN ?_ _) | (with_reducible refine Below.alloc ?_ ?_ _) | (with_reducible refine Below.drew ?_) | (with_reducible refine Below.setCell ?_ ?_ _) | go_size))
def lookS (s : ByteArray) (p : Pl) : Int := if s.size ≤ p.b then -1 else if Utf8.decode s p.b = (65533, 1) then -2 else ((Utf8.decode s p.b).1 : Int)
set_option maxRecDepth 20000 in
set_option maxHeartbeats 400000 in
theorem look_any (w : World) (q : Nat) (s : ByteArray) (p : Pl) (h : Rdr w q s p) (hm : s.size ≤ 100000) :
    Calls Tryd.prog 40 #[.pointer (some ⟨q, 0, none⟩)] w fun r w' => r = .returned (.int .i64 (lookS s p)) ∧ Below w.heap.size w w' := by
  have H := hide h
  unfold lookS
  by_cases he : s.size ≤ p.b
  · rw [if_pos he]
    have he' : decide (s.size ≤ p.b) = true := by simp [he]
    clear h
    go_enter Tryd.func40, Tryd.ntmps40
    go_wp2_with fail
    refine (end_any w q s p H.out).mono ?_
    rintro r w1 ⟨rfl, hb⟩
    rw [he']
    go_wp2
    go_ret
    exact ⟨rfl, hb⟩
  · rw [if_neg he]
    have he' : decide (s.size ≤ p.b) = false := by simp; omega
    have KP := fun (w : World) => point_any w s p.b (by omega) hm
    unfold ptS at KP
    clear h
    by_cases hd : Utf8.decode s p.b = (65533, 1)
    · rw [if_pos hd]
      simp only [if_pos hd] at KP
      go_enter Tryd.func40, Tryd.ntmps40
      go_wp2_with fail
      refine (end_any w q s p H.out).mono ?_
      rintro r w1 ⟨rfl, hb⟩
      rw [he']
      obtain ⟨hq, k0, k1, k2, k3, k4, f1, f2, f3, f4⟩ := (H.out.below hb).cells
      have HB := hide hb
      clear hb hd
      go_wp2_with fail
      go_quiet ((go_at_call 60; exact Calls.quiet_of_same (KP _)))
      go_wp2
      go_ret
      refine ⟨rfl, ?_⟩
      have hB := HB.out
      exact gdrewN hB _
    · rw [if_neg hd]
      simp only [if_neg hd] at KP
      have hk := dec_le s p.b (by omega)
      have HD := hide hd
      clear hd
      generalize Utf8.decode s p.b = dc at KP hk ⊢
      obtain ⟨c, k⟩ := dc
      simp only at KP hk ⊢
      have hk0 : ((k : Int) == 0) = false := beq_eq_false_iff_ne.2 (by omega)
      go_enter Tryd.func40, Tryd.ntmps40
      go_wp2_with fail
      refine (end_any w q s p H.out).mono ?_
      rintro r w1 ⟨rfl, hb⟩
      rw [he']
      obtain ⟨hq, k0, k1, k2, k3, k4, f1, f2, f3, f4⟩ := (H.out.below hb).cells
      have HB := hide hb
      clear hb
      go_wp2_with fail
      go_quiet ((go_at_call 60; exact Calls.quiet_of_same (KP _)))
      go_wp2
      go_ret
      refine ⟨rfl, ?_⟩
      have hB := HB.out
      exact gdrewN hB _
set_option maxRecDepth 20000 in
set_option maxHeartbeats 1000000 in
theorem next_any (w : World) (q : Nat) (s : ByteArray) (p : Pl) (h : Rdr w q s p) (hm : s.size ≤ 100000) (hp : p.b < s.size) (hok : p.ok) (hv : Utf8.decode s p.b ≠ (65533, 1)) :
    Calls Tryd.prog 42 #[.pointer (some ⟨q, 0, none⟩)] w fun r w' => r = .returned (.tuple #[]) ∧ Tq w w' q ∧ Rdr w' q s (p.past (Utf8.decode s p.b).1 (Utf8.decode s p.b).2) := by
  have H := hide h
  have KP := fun (w : World) => point_any w s p.b hp hm
  unfold ptS at KP
  simp only [if_neg hv] at KP
  have hk := dec_le s p.b hp
  have hg := hok.g
  have hl := hok.l
  have hc := hok.c
  clear hv hok
  generalize Utf8.decode s p.b = dc at KP hk ⊢
  obtain ⟨c, k⟩ := dc
  simp only at KP hk ⊢
  unfold Pl.past
  obtain ⟨hq, k0, k1, k2, k3, k4, f1, f2, f3, f4⟩ := h.cells
  clear h
  by_cases h10 : c = 10
  · subst h10
    rw [if_pos rfl, if_pos rfl]
    go_enter Tryd.func42, Tryd.ntmps42
    go_wp2_with fail
    go_quiet ((go_at_call 60; exact Calls.quiet_of_same (KP _)))
    go_wp2
    go_returns
    refine ⟨rfl, (Tq.of_below (gdrewN (Below.refl _ _) nq)).set 1 _ |>.set 2 _ |>.set 4 _ |>.set 3 _ |>.set 4 _, ?_⟩
    unfold Rdr
    rw [heap_setCell_same _ _ 4 _ _ _ (heap_setCell_same _ _ 3 _ _ _ (heap_setCell_same _ _ 4 _ _ _ (heap_setCell_same _ _ 2 _ _ _ (heap_setCell_same _ _ 1 _ _ _ (show (w.drewN nq).heap[q]? = _ from H.out)))))]
    simp
  · rw [if_neg h10, if_neg h10]
    have h10' : ((c : Int) == 10) = false := beq_eq_false_iff_ne.2 (by omega)
    go_enter Tryd.func42, Tryd.ntmps42
    go_wp2_with fail
    go_quiet ((go_at_call 60; exact Calls.quiet_of_same (KP _)))
    go_wp2
    go_returns
    refine ⟨rfl, (Tq.of_below (gdrewN (Below.refl _ _) nq)).set 1 _ |>.set 2 _ |>.set 4 _, ?_⟩
    unfold Rdr
    rw [heap_setCell_same _ _ 4 _ _ _ (heap_setCell_same _ _ 2 _ _ _ (heap_setCell_same _ _ 1 _ _ _ (show (w.drewN nq).heap[q]? = _ from H.out)))]
    simp
end Lm
end Go.Proofs.YtgfglefgpgckiaaDoor

namespace Go.Proofs.YtgfglefgpgckiaaDoor
namespace Lm
open Go Go.RowKit
theorem look_cons {s : ByteArray} {p e : Pl} {g : Gl} {gs : List Gl} (h : Snd s p (g :: gs) e) : lookS s p = (g.code : Int) := by
  obtain ⟨_, h1, h2, h3, _⟩ := h.tail
  unfold lookS
  rw [if_neg (by omega), if_neg h3, h2]
theorem look_end {s : ByteArray} {p e : Pl} (h : Snd s p [] e) : p = e ∧ (s.size ≤ e.b → lookS s p = -1) ∧ (e.b < s.size → lookS s p = -2) := by
  cases h with
  | stop _ h =>
    refine ⟨rfl, fun hs => by unfold lookS; rw [if_pos hs], fun hs => ?_⟩
    rcases h with h | h
    · omega
    · unfold lookS
      rw [if_neg (by omega), if_pos h.2]
set_option maxRecDepth 20000 in
set_option maxHeartbeats 2000000 in
theorem spaces_any (w : World) (q : Nat) (s : ByteArray) (p : Pl) (gs : List Gl) (e : Pl) (h : Rdr w q s p) (hm : s.size ≤ 100000) (hQ : Snd s p gs e) (hok : p.ok) (hpb : p.b ≤ s.size) :
    Calls Tryd.prog 25 #[.pointer (some ⟨q, 0, none⟩)] w fun r w' => Tq w w' q ∧ ∃ p', Snd s p' (skp false gs) e ∧ p'.ok ∧ p'.b ≤ s.size ∧ Rdr w' q s p' ∧ ((skp false gs = [] ∧ e.b < s.size ∧ r = .returned (.int .i64 40)) ∨ ((skp false gs ≠ [] ∨ s.size ≤ e.b) ∧ r = .returned (.int .i64 0))) := by
  have H := hide h
  have HQ := hide hQ
  have HO := hide hok
  clear h hQ hok
  go_enter Tryd.func25, Tryd.ntmps25
  go_wp2_with fail
  go_loopw [3] (fun cv wr => ∃ (c : Bool) (p' : Pl) (gs' : List Gl), cv = .bool c ∧ Snd s p' gs' e ∧ p'.ok ∧ p'.b ≤ s.size ∧ skp false gs = skp c gs' ∧ Rdr wr q s p' ∧ Tq w wr q) (fun _ wr => s.size - rpos wr q)
  case atStart => exact ⟨false, p, gs, rfl, HQ.out, HO.out, hpb, rfl, H.out, Tq.refl _ _⟩
  case round =>
    obtain ⟨c, p', gs', rfl, hS, hok, hb, hk, hR, hT⟩ := hrel
    have HS := hide hS
    have HK := hide hk
    have HR := hide hR
    have HT := hide hT
    have HO' := hide hok
    have IP := hide hR.pos
    clear hk hR hT hok
    cases gs' with
    | nil =>
      obtain ⟨rfl, hl1, hl2⟩ := look_end hS
      clear hS
      have hsk : skp false gs = [] := by rw [HK.out]; cases c <;> rfl
      have HSK := hide hsk
      clear hsk
      by_cases hbe : s.size ≤ p'.b
      · have hl := hl1 hbe
        clear hl1 hl2
        go_wp2_with fail
        refine (look_any wr q s p' HR.out hm).mono ?_
        rintro r w2 ⟨rfl, hb2⟩
        rw [hl]
        go_wp2
        go_ret
        refine ⟨HT.out.trans (.of_below hb2), p', by rw [HSK.out]; exact HS.out, HO'.out, hb, HR.out.below hb2, .inr ⟨.inr hbe, rfl⟩⟩
      · have hl := hl2 (by omega)
        clear hl1 hl2
        go_wp2_with fail
        refine (look_any wr q s p' HR.out hm).mono ?_
        rintro r w2 ⟨rfl, hb2⟩
        rw [hl]
        go_wp2
        go_ret
        refine ⟨HT.out.trans (.of_below hb2), p', by rw [HSK.out]; exact HS.out, HO'.out, hb, HR.out.below hb2, .inl ⟨HSK.out, by omega, rfl⟩⟩
    | cons g gs'' =>
      have hl := look_cons hS
      obtain ⟨t1, t2, t3, t4, t5, t6⟩ := hS.tail
      clear hS
      have HN := hide (fun (W : World) (h : Rdr W q s p') => next_any W q s p' h hm t2 HO'.out t4)
      have hd := dec_le s p'.b t2
      have HO2 := hide (HO'.out.past (Utf8.decode s p'.b).1 (Utf8.decode s p'.b).2 hd.1)
      have HS2 := hide t5
      have hpos : (p'.past (Utf8.decode s p'.b).1 (Utf8.decode s p'.b).2).b = p'.b + (Utf8.decode s p'.b).2 := rfl
      generalize p'.past (Utf8.decode s p'.b).1 (Utf8.decode s p'.b).2 = p2 at HN HO2 HS2 hpos
      have hpos' : p'.b < p2.b ∧ p2.b ≤ s.size := by omega
      have hg0 : 0 ≤ (g.code : Int) := by omega
      have n2 : ((g.code : Int) == -2) = false := beq_eq_false_iff_ne.2 (by omega)
      have n1 : ((g.code : Int) == -1) = false := beq_eq_false_iff_ne.2 (by omega)
      clear t1 t2 t3 t4 t5 t6 hd hpos
      go_wp2_with fail
      refine (look_any wr q s p' HR.out hm).mono ?_
      rintro r w2 ⟨rfl, hb2⟩
      rw [hl]
      replace HR := hide (HR.out.below hb2)
      replace HT := hide (HT.out.trans (.of_below hb2))
      clear hb2 hl
      have HGC : Hid (g.code = 10 → gcls g.code = 1) := by intro h; rw [h]; rfl
      cases c with
      | true =>
        by_cases h10 : g.code = 10
        · have q1 : ((g.code : Int) == 10) = true := by rw [h10]; rfl
          have q2 : gcls (g.code : Int) = 1 := HGC.out h10
          have q3 : (gcls (g.code : Int) == 6) = false := by rw [q2]; rfl
          have q4 : (gcls (g.code : Int) != 1) = false := by rw [q2]; rfl
          have H10 := hide h10
          clear h10 q2
          go_wp2_with (go_at_call 41; refine (rcls_any _ _).mono ?_; rintro r w' ⟨rfl, rfl⟩)
          refine (HN.out _ HR.out).mono ?_
          rintro r w3 ⟨rfl, ht3, hR3⟩
          have HR3 := hide hR3
          have HT3 := hide (HT.out.trans ht3)
          clear ht3 hR3
          go_wp2
          go_roundw
          case rel => exact ⟨false, p2, gs'', rfl, HS2.out, HO2.out, hpos'.2, by rw [HK.out, skp]; simp [H10.out], HR3.out, HT3.out⟩
          case measure => rw [IP.out, HR3.out.pos]; omega
        · have q1 : ((g.code : Int) == 10) = false := beq_eq_false_iff_ne.2 (by omega)
          have H10 := hide h10
          clear h10
          by_cases h6 : gcls (g.code : Int) = 6
          · have q3 : (gcls (g.code : Int) == 6) = true := by rw [h6]; rfl
            clear h6
            go_wp2_with (go_at_call 41; refine (rcls_any _ _).mono ?_; rintro r w' ⟨rfl, rfl⟩)
            refine (HN.out _ HR.out).mono ?_
            rintro r w3 ⟨rfl, ht3, hR3⟩
            have HR3 := hide hR3
            have HT3 := hide (HT.out.trans ht3)
            clear ht3 hR3
            go_wp2
            go_roundw
            case rel => exact ⟨true, p2, gs'', rfl, HS2.out, HO2.out, hpos'.2, by rw [HK.out, skp]; simp [H10.out], HR3.out, HT3.out⟩
            case measure => rw [IP.out, HR3.out.pos]; omega
          · have q3 : (gcls (g.code : Int) == 6) = false := beq_eq_false_iff_ne.2 h6
            clear h6
            go_wp2_with (go_at_call 41; refine (rcls_any _ _).mono ?_; rintro r w' ⟨rfl, rfl⟩)
            refine (HN.out _ HR.out).mono ?_
            rintro r w3 ⟨rfl, ht3, hR3⟩
            have HR3 := hide hR3
            have HT3 := hide (HT.out.trans ht3)
            clear ht3 hR3
            go_wp2
            go_roundw
            case rel => exact ⟨true, p2, gs'', rfl, HS2.out, HO2.out, hpos'.2, by rw [HK.out, skp]; simp [H10.out], HR3.out, HT3.out⟩
            case measure => rw [IP.out, HR3.out.pos]; omega
      | false =>
        by_cases h10 : g.code = 10
        · have q1 : ((g.code : Int) == 10) = true := by rw [h10]; rfl
          have q2 : gcls (g.code : Int) = 1 := HGC.out h10
          have q3 : (gcls (g.code : Int) == 6) = false := by rw [q2]; rfl
          have q4 : (gcls (g.code : Int) != 1) = false := by rw [q2]; rfl
          have H2 := hide q2
          clear h10 q2
          go_wp2_with (go_at_call 41; refine (rcls_any _ _).mono ?_; rintro r w' ⟨rfl, rfl⟩)
          refine (HN.out _ HR.out).mono ?_
          rintro r w3 ⟨rfl, ht3, hR3⟩
          have HR3 := hide hR3
          have HT3 := hide (HT.out.trans ht3)
          clear ht3 hR3
          go_wp2
          go_roundw
          case rel => exact ⟨false, p2, gs'', rfl, HS2.out, HO2.out, hpos'.2, by rw [HK.out, skp]; simp [H2.out], HR3.out, HT3.out⟩
          case measure => rw [IP.out, HR3.out.pos]; omega
        · have q1 : ((g.code : Int) == 10) = false := beq_eq_false_iff_ne.2 (by omega)
          clear h10
          by_cases h6 : gcls (g.code : Int) = 6
          · have q3 : (gcls (g.code : Int) == 6) = true := by rw [h6]; rfl
            have H6 := hide h6
            clear h6
            go_wp2_with (go_at_call 41; refine (rcls_any _ _).mono ?_; rintro r w' ⟨rfl, rfl⟩)
            refine (HN.out _ HR.out).mono ?_
            rintro r w3 ⟨rfl, ht3, hR3⟩
            have HR3 := hide hR3
            have HT3 := hide (HT.out.trans ht3)
            clear ht3 hR3
            go_wp2
            go_roundw
            case rel => exact ⟨true, p2, gs'', rfl, HS2.out, HO2.out, hpos'.2, by rw [HK.out, skp]; simp [H6.out], HR3.out, HT3.out⟩
            case measure => rw [IP.out, HR3.out.pos]; omega
          · have q3 : (gcls (g.code : Int) == 6) = false := beq_eq_false_iff_ne.2 h6
            by_cases h1 : gcls (g.code : Int) = 1
            · have q4 : (gcls (g.code : Int) != 1) = false := by rw [h1]; rfl
              have H1 := hide h1
              clear h1 h6
              go_wp2_with (go_at_call 41; refine (rcls_any _ _).mono ?_; rintro r w' ⟨rfl, rfl⟩)
              refine (HN.out _ HR.out).mono ?_
              rintro r w3 ⟨rfl, ht3, hR3⟩
              have HR3 := hide hR3
              have HT3 := hide (HT.out.trans ht3)
              clear ht3 hR3
              go_wp2
              go_roundw
              case rel => exact ⟨false, p2, gs'', rfl, HS2.out, HO2.out, hpos'.2, by rw [HK.out, skp]; simp [H1.out], HR3.out, HT3.out⟩
              case measure => rw [IP.out, HR3.out.pos]; omega
            · have q4 : (gcls (g.code : Int) != 1) = true := by simp [h1]
              have hsk : skp false gs = g :: gs'' := by rw [HK.out, skp]; simp [h6, h1]
              have HSK := hide hsk
              clear h6 h1 hsk
              go_wp2_with (go_at_call 41; refine (rcls_any _ _).mono ?_; rintro r w' ⟨rfl, rfl⟩)
              go_ret
              exact ⟨HT.out, p', by rw [HSK.out]; exact HS.out, HO'.out, hb, HR.out, .inr ⟨.inl (by rw [HSK.out]; simp), rfl⟩⟩
end Lm
end Go.Proofs.YtgfglefgpgckiaaDoor

namespace Go.Proofs
open Go.Shelf
shelf_lay LaysM.n316 Nm 316 at Tryd as Tryd.lays316
namespace YtgfglefgpgckiaaDoor
namespace Lm
open Go Go.RowKit
theorem clone_lite (w : World) (s : ByteArray) (h : s.size ≤ 281474976710656) :
    Calls Tryd.prog 73 #[.string s] w fun e w' => e = .returned (.string s) ∧ Below w.heap.size w w' := Any.stringslite_Clone Tryd.lays316 s w h
theorem sclone_any (w : World) (s : ByteArray) (h : s.size ≤ 281474976710656) :
    Calls Tryd.prog 66 #[.string s] w fun e w' => e = .returned (.string s) ∧ Below w.heap.size w w' := by
  go_enter Tryd.func66, Tryd.ntmps66
  go_wp2_with fail
  refine (clone_lite _ _ h).mono ?_
  rintro e w' ⟨rfl, hb⟩
  go_wp2
  go_ret
  exact ⟨rfl, hb⟩
end Lm
end YtgfglefgpgckiaaDoor
end Go.Proofs

namespace Go.Proofs.YtgfglefgpgckiaaDoor
namespace Lm
open Go Go.RowKit
theorem nums_new (w : World) (zs : List Int) (hl : zs.length ≤ 100) (e : TypeId) : Nums (w.alloc (.cells (zs.map (Value.int .i64)).toArray e)) (.slice (some ⟨w.heap.size, 0, none⟩) zs.length zs.length) zs := by
  refine ⟨_, _, rfl, Nat.le_refl _, by omega, by simp, .inr ⟨w.heap.size, 0, rfl, by simp [World.size_alloc], fun j u hu => ?_⟩⟩
  rw [cell_of_row _ w.heap.size _ _ _ _ (heap_alloc_new w _), Nat.zero_add]
  simpa using hu
def tok0 : Value := .agg #[.int .i64 0, .string ⟨#[]⟩, .int .i64 0, .int .i64 0, .int .i64 0, .int .i64 0]
def Tk0B (w : World) (f : Nat) : Prop := w.heap[f]? = some (.cells #[.int .i64 0, .string ⟨#[]⟩, .int .i64 0, .int .i64 0, .int .i64 0, .int .i64 0] 35 (0, 0))
theorem Tk0B.tq {w w' : World} {f q : Nat} (h : Tk0B w f) (ht : Tq w w' q) (hn : f ≠ q) : Tk0B w' f := (ht.other f (lt_of_heap h) hn).trans h
theorem Tk0B.below {w w' : World} {f : Nat} (h : Tk0B w f) (hb : Below w.heap.size w w') : Tk0B w' f := (hb.block f (lt_of_heap h)).trans h
structure Tk0C (w : World) (f : Nat) : Prop where
  hf : f < w.heap.size
  t0 : w.cell? ⟨f, 0, none⟩ = some (.int .i64 0)
  t1 : w.cell? ⟨f, 1, none⟩ = some (.string ⟨#[]⟩)
  t2 : w.cell? ⟨f, 2, none⟩ = some (.int .i64 0)
  t3 : w.cell? ⟨f, 3, none⟩ = some (.int .i64 0)
  t4 : w.cell? ⟨f, 4, none⟩ = some (.int .i64 0)
  t5 : w.cell? ⟨f, 5, none⟩ = some (.int .i64 0)
  f0 : w.frozen? ⟨f, 0, none⟩ = false
  f1 : w.frozen? ⟨f, 1, none⟩ = false
  f2 : w.frozen? ⟨f, 2, none⟩ = false
  f3 : w.frozen? ⟨f, 3, none⟩ = false
  f4 : w.frozen? ⟨f, 4, none⟩ = false
  f5 : w.frozen? ⟨f, 5, none⟩ = false
theorem Tk0B.cells {w : World} {f : Nat} (h : Tk0B w f) : Tk0C w f := by
  exact ⟨lt_of_heap h, by rw [cell_of_row w f 0 _ _ _ h]; rfl, by rw [cell_of_row w f 1 _ _ _ h]; rfl, by rw [cell_of_row w f 2 _ _ _ h]; rfl, by rw [cell_of_row w f 3 _ _ _ h]; rfl, by rw [cell_of_row w f 4 _ _ _ h]; rfl, by rw [cell_of_row w f 5 _ _ _ h]; rfl, frozen_of_row w f 0 _ _ h, frozen_of_row w f 1 _ _ h, frozen_of_row w f 2 _ _ h, frozen_of_row w f 3 _ _ h, frozen_of_row w f 4 _ _ h, frozen_of_row w f 5 _ _ h⟩
set_option maxRecDepth 20000 in
set_option maxHeartbeats 1000000 in
theorem name_any (w : World) (q : Nat) (s : ByteArray) (v : Value) (gs : List Gl) (i : Nat) (e : Pl) (h : Scn w q s v gs i e) (hn : gs.length ≤ 100000) (hQ : Snd s pl0 gs e) (hs : s.size ≤ 100000) :
    Calls Tryd.prog 50 #[.pointer (some ⟨q, 0, none⟩)] w fun r w' => ∃ j, i ≤ j ∧ gs.drop j = (gs.drop i).dropWhile (inC [2, 3, 4]) ∧ Scn w' q s v gs j e ∧ Tq w w' q ∧ ((16 < j - i ∧ r = .returned (.tuple #[tok0, .int .i64 42])) ∨ (j - i ≤ 16 ∧ r = .returned (.tuple #[.agg #[.int .i64 1, .string (s.extract (plf (gs.drop i) e).b (plf (gs.drop j) e).b), .int .i64 0, .int .i64 0, .int .i64 0, .int .i64 0], .int .i64 0]))) := by
  have H := hide h
  have hq := lt_of_heap h.blk
  clear h
  unfold tok0
  have hb0 : Below w.heap.size w ((w.alloc (.cells #[.int .i64 0, .string ⟨#[]⟩, .int .i64 0, .int .i64 0, .int .i64 0, .int .i64 0] 35)).alloc (.cells #[.int .i64 2, .int .i64 3, .int .i64 4] 3)) := below_two _ _ _
  have ht0 : Tk0B ((w.alloc (.cells #[.int .i64 0, .string ⟨#[]⟩, .int .i64 0, .int .i64 0, .int .i64 0, .int .i64 0] 35)).alloc (.cells #[.int .i64 2, .int .i64 3, .int .i64 4] 3)) w.heap.size := Tk0B.below (heap_alloc_new w _) ((Below.refl _ _).alloc (Nat.le_refl _) _)
  have hN := nums_new (w.alloc (.cells #[.int .i64 0, .string ⟨#[]⟩, .int .i64 0, .int .i64 0, .int .i64 0, .int .i64 0] 35)) [2, 3, 4] (by simp) 3
  simp only [World.size_alloc, List.map, List.length] at hN
  go_enter Tryd.func50, Tryd.ntmps50
  go_wp2_with fail
  refine (run_any _ q s v gs i e (H.out.below hb0) hn _ _ _ [2, 3, 4] hN (by rintro b off n c hv; simp only [Value.slice.injEq, Option.some.injEq, Addr.mk.injEq] at hv; omega) hQ hs).mono ?_
  rintro r w2 ⟨j, hij, hdj, rfl, hS, hT⟩
  have HS := hide hS
  have HT := hide ((Tq.of_below hb0).trans hT)
  have HT0 := hide (ht0.tq hT (by omega))
  clear hS hT hb0 ht0 hN
  have HDJ := hide hdj
  clear hdj
  generalize hf : w.heap.size = f at *
  replace hf : w.heap.size ≤ f := by omega
  have hqf : q ≠ f := by omega
  clear hq
  by_cases hlong : 16 < j - i
  · obtain ⟨hfl, t0, t1, t2, t3, t4, t5, f0, f1, f2, f3, f4, f5⟩ := HT0.out.cells
    have hl' : (16 : Int) < ((j - i : Nat) : Int) := by omega
    go_wp2
    refine bodyPost_ret (v := _) (by simp [results, Tryd.results50, go_sem, t0, t1, t2, t3, t4, t5]; try rfl) rfl ⟨j, hij, HDJ.out, ?_, ?_, .inl ⟨hlong, rfl⟩⟩
    · exact H.out.of_tq (HT.out.setNew hf 0 _ |>.setNew hf 1 _ |>.setNew hf 2 _ |>.setNew hf 3 _ |>.setNew hf 4 _ |>.setNew hf 5 _) ((six_other _ _ _ hqf _ _ _ _ _ _).trans HS.out.blk) HS.out.le
    · exact HT.out.setNew hf 0 _ |>.setNew hf 1 _ |>.setNew hf 2 _ |>.setNew hf 3 _ |>.setNew hf 4 _ |>.setNew hf 5 _
  · have hl' : decide ((16 : Int) < ((j - i : Nat) : Int)) = false := by simp; omega
    go_wp2_with fail
    refine (sclone_any _ _ (by simp; omega)).mono ?_
    rintro r w3 ⟨rfl, hb3⟩
    replace HT0 := hide (HT0.out.below hb3)
    replace HT := hide (HT.out.trans (.of_below hb3))
    replace HS := hide (HS.out.below hb3)
    clear hb3
    obtain ⟨hfl, t0, t1, t2, t3, t4, t5, f0, f1, f2, f3, f4, f5⟩ := HT0.out.cells
    go_wp2
    refine bodyPost_ret (v := _) (by simp [results, Tryd.results50, go_sem, t0, t1, t2, t3, t4, t5]; try rfl) rfl ⟨j, hij, HDJ.out, ?_, ?_, .inr ⟨by omega, rfl⟩⟩
    · exact H.out.of_tq (HT.out.setNew hf 0 _ |>.setNew hf 1 _ |>.setNew hf 2 _ |>.setNew hf 3 _ |>.setNew hf 4 _ |>.setNew hf 5 _) ((six_other _ _ _ hqf _ _ _ _ _ _).trans HS.out.blk) HS.out.le
    · exact HT.out.setNew hf 0 _ |>.setNew hf 1 _ |>.setNew hf 2 _ |>.setNew hf 3 _ |>.setNew hf 4 _ |>.setNew hf 5 _
end Lm
end Go.Proofs.YtgfglefgpgckiaaDoor

namespace Go.Proofs.YtgfglefgpgckiaaDoor
namespace Lm
open Go Go.RowKit
open Dm (Err Fine)
set_option maxRecDepth 20000 in
set_option maxHeartbeats 1000000 in
theorem number_any (w : World) (q : Nat) (s : ByteArray) (v : Value) (gs : List Gl) (i : Nat) (e : Pl) (h : Scn w q s v gs i e) (hn : gs.length ≤ 100000) (hQ : Snd s pl0 gs e) (hs : s.size ≤ 4096) (hne : (plf (gs.drop i) e).b < (plf ((gs.drop i).dropWhile (inC [3])) e).b) :
    Calls Tryd.prog 51 #[.pointer (some ⟨q, 0, none⟩)] w fun r w' => ∃ j, i ≤ j ∧ gs.drop j = (gs.drop i).dropWhile (inC [3]) ∧ Scn w' q s v gs j e ∧ Tq w w' q ∧ ∃ n ds, IsLen (dval (bytesOf (s.extract (plf (gs.drop i) e).b (plf (gs.drop j) e).b))) n ∧ IsDec ds (dval (bytesOf (s.extract (plf (gs.drop i) e).b (plf (gs.drop j) e).b))) ∧ ((32 < n ∧ r = .returned (.tuple #[tok0, .int .i64 2])) ∨ (n ≤ 32 ∧ r = .returned (.tuple #[.agg #[.int .i64 2, .string (strOfNums ds), .int .i64 0, .int .i64 0, .int .i64 0, .int .i64 0], .int .i64 0]))) := by
  have H := hide h
  have hq := lt_of_heap h.blk
  have hD := hQ.drop pl0_ok (Nat.zero_le _) i h.le
  have hG := hD.1.digits hD.2.1 hD.2.2.2.1
  have HF : Hid (Fine (s.extract (plf (gs.drop i) e).b (plf ((gs.drop i).dropWhile (inC [3])) e).b)) := by
    refine ⟨?_, ?_, hG.1⟩
    · rw [ByteArray.size_extract]; omega
    · rw [ByteArray.size_extract]; omega
  clear h hD hG hne
  unfold tok0
  have hb0 : Below w.heap.size w ((w.alloc (.cells #[.int .i64 0, .string ⟨#[]⟩, .int .i64 0, .int .i64 0, .int .i64 0, .int .i64 0] 35)).alloc (.cells #[.int .i64 3] 3)) := below_two _ _ _
  have ht0 : Tk0B ((w.alloc (.cells #[.int .i64 0, .string ⟨#[]⟩, .int .i64 0, .int .i64 0, .int .i64 0, .int .i64 0] 35)).alloc (.cells #[.int .i64 3] 3)) w.heap.size := Tk0B.below (heap_alloc_new w _) ((Below.refl _ _).alloc (Nat.le_refl _) _)
  have hN := nums_new (w.alloc (.cells #[.int .i64 0, .string ⟨#[]⟩, .int .i64 0, .int .i64 0, .int .i64 0, .int .i64 0] 35)) [3] (by simp) 3
  simp only [World.size_alloc, List.map, List.length] at hN
  go_enter Tryd.func51, Tryd.ntmps51
  go_wp2_with fail
  refine (run_any _ q s v gs i e (H.out.below hb0) hn _ _ _ [3] hN (by rintro b off n c hv; simp only [Value.slice.injEq, Option.some.injEq, Addr.mk.injEq] at hv; omega) hQ (by omega)).mono ?_
  rintro r w2 ⟨j, hij, hdj, rfl, hS, hT⟩
  have HS := hide hS
  have HT := hide ((Tq.of_below hb0).trans hT)
  have HT0 := hide (ht0.tq hT (by omega))
  clear hS hT hb0 ht0 hN
  rw [← hdj] at HF
  have HDJ := hide hdj
  clear hdj
  generalize htx : s.extract (plf (gs.drop i) e).b (plf (gs.drop j) e).b = t at HF ⊢
  have HTX := hide htx
  clear htx
  generalize hf : w.heap.size = f at *
  replace hf : w.heap.size ≤ f := by omega
  have hqf : q ≠ f := by omega
  clear hq
  go_wp2_with fail
  refine (parse_e _ _).mono ?_
  rintro r w3 ⟨hr, hb3⟩
  replace HT0 := hide (HT0.out.below hb3)
  replace HT := hide (HT.out.trans (.of_below hb3))
  replace HS := hide (HS.out.below hb3)
  clear hb3
  rcases hr with ⟨k, hk, rfl⟩ | ⟨_, u, rfl, rs, hO, hC, hV⟩
  · exfalso
    obtain ⟨x1, x2, x3⟩ := HF.out
    rcases hk with hk | hk
    · omega
    · exact hk.2.2 ⟨x1, x3⟩
  obtain ⟨ao, cap, rfl, c1, c2, c3, c4⟩ := hO.sl
  have HO := hide hO
  have HC := hide (And.intro hC hV)
  have hlen : rs.length ≤ 1000000 := by
    have h1 := dval_bounds HF.out.2.2
    rw [bytesOf_length, ← hV] at h1
    have h2 := p10_mono (m := t.size) (n := 5120) HF.out.2.1
    have h3 := gp10_le_pw 5120
    have h4 := canon_len hC (m := 5120) (by omega)
    omega
  clear hO hC hV c4
  by_cases hbig : 32 < rs.length
  · obtain ⟨DS, hds⟩ := gdec_of HF.out.2.2
    have HDS := hide hds
    clear hds
    obtain ⟨hfl, t0, t1, t2, t3, t4, t5, f0, f1, f2, f3, f4, f5⟩ := HT0.out.cells
    have hl' : (32 : Int) < (rs.length : Int) := by omega
    go_wp2
    refine bodyPost_ret (v := _) (by simp [results, Tryd.results51, go_sem, t0, t1, t2, t3, t4, t5]; try rfl) rfl ⟨j, hij, HDJ.out, ?_, ?_, _, DS, by rw [HTX.out]; exact ⟨_, HC.out.1, HC.out.2, rfl⟩, by rw [HTX.out]; exact HDS.out, .inl ⟨hbig, rfl⟩⟩
    · exact H.out.of_tq (HT.out.setNew hf 0 _ |>.setNew hf 1 _ |>.setNew hf 2 _ |>.setNew hf 3 _ |>.setNew hf 4 _ |>.setNew hf 5 _) ((six_other _ _ _ hqf _ _ _ _ _ _).trans HS.out.blk) HS.out.le
    · exact HT.out.setNew hf 0 _ |>.setNew hf 1 _ |>.setNew hf 2 _ |>.setNew hf 3 _ |>.setNew hf 4 _ |>.setNew hf 5 _
  · have hl' : decide ((32 : Int) < (rs.length : Int)) = false := by simp; omega
    go_wp2_with fail
    refine (text_any _ _ _ _ _ HO.out.sl hlen).mono ?_
    rintro r w4 ⟨DS, rfl, hds, hb4⟩
    rw [HC.out.2] at hds
    have HDS := hide hds
    replace HT0 := hide (HT0.out.below hb4)
    replace HT := hide (HT.out.trans (.of_below hb4))
    replace HS := hide (HS.out.below hb4)
    clear hb4 hds
    obtain ⟨hfl, t0, t1, t2, t3, t4, t5, f0, f1, f2, f3, f4, f5⟩ := HT0.out.cells
    go_wp2
    refine bodyPost_ret (v := _) (by simp [results, Tryd.results51, go_sem, t0, t1, t2, t3, t4, t5]; try rfl) rfl ⟨j, hij, HDJ.out, ?_, ?_, _, DS, by rw [HTX.out]; exact ⟨_, HC.out.1, HC.out.2, rfl⟩, by rw [HTX.out]; exact HDS.out, .inr ⟨by omega, rfl⟩⟩
    · exact H.out.of_tq (HT.out.setNew hf 0 _ |>.setNew hf 1 _ |>.setNew hf 2 _ |>.setNew hf 3 _ |>.setNew hf 4 _ |>.setNew hf 5 _) ((six_other _ _ _ hqf _ _ _ _ _ _).trans HS.out.blk) HS.out.le
    · exact HT.out.setNew hf 0 _ |>.setNew hf 1 _ |>.setNew hf 2 _ |>.setNew hf 3 _ |>.setNew hf 4 _ |>.setNew hf 5 _
end Lm
end Go.Proofs.YtgfglefgpgckiaaDoor

namespace Go.Proofs.YtgfglefgpgckiaaDoor
namespace Lm
open Go Go.RowKit
set_option maxRecDepth 20000 in
set_option maxHeartbeats 1000000 in
theorem part_any (w : World) (c : Int) :
    Calls Tryd.prog 43 #[.int .i64 c] w fun e w' => e = .returned (.bool (decide (0 ≤ c ∧ (gcls c = 2 ∨ gcls c = 3 ∨ gcls c = 4)))) ∧ w' = w := by
  go_enter Tryd.func43, Tryd.ntmps43
  go_wp2_with fail
  refine (rcls_any _ _).mono ?_
  rintro e w' ⟨rfl, rfl⟩
  go_wp2
  all_goals go_ret
  all_goals refine ⟨congrArg Ending.returned (congrArg Value.bool ?_), rfl⟩
  all_goals try simp only [beq_iff_eq, beq_eq_false_iff_ne] at *
  all_goals first | (refine bool_fin ?_; simp <;> omega) | (symm; simp; omega)
theorem ext_drop (s : ByteArray) (h : 0 < s.size) : bytesOf s = ((s.get! 0).toNat : Int) :: bytesOf (s.extract 1 s.size) := by
  have := bytesOf_extract_cons s 0 s.size h (Nat.le_refl _)
  rwa [show s.extract 0 s.size = s from by simp] at this
set_option maxRecDepth 20000 in
set_option maxHeartbeats 1000000 in
theorem bare_any (w : World) (s : ByteArray) (h0 : 0 < s.size) (hd : Dig (bytesOf s)) :
    Calls Tryd.prog 44 #[.string s] w fun e w' => w' = w ∧ ∃ ds, IsDec ds (dval (bytesOf s)) ∧ e = .returned (.string (strOfNums ds)) ∧ ds.length ≤ s.size := by
  have HD := hide hd
  clear hd
  go_enter Tryd.func44, Tryd.ntmps44
  go_wp2
  go_loopw [0] (fun sv wr => ∃ (y : ByteArray), sv = .string y ∧ 0 < y.size ∧ y.size ≤ s.size ∧ Dig (bytesOf y) ∧ dval (bytesOf y) = dval (bytesOf s) ∧ wr = w) (fun sv _ => match sv with | .string y => y.size | _ => 0)
  case atStart => exact ⟨s, rfl, h0, Nat.le_refl _, HD.out, rfl, rfl⟩
  case round =>
    obtain ⟨y, rfl, hy0, hys, hyd, hyv, rfl⟩ := hrel
    have HYD := hide hyd
    have HYV := hide hyv
    clear hyd hyv
    have hb := ext_drop y hy0
    have hg : y[0]'hy0 = y.get! 0 := getS y 0 hy0
    by_cases h1 : 1 < y.size
    · have h1' : (1 : Int) < (y.size : Int) := by omega
      by_cases hz : (y.get! 0).toNat = 48
      · have hz' : ((y[0]'hy0).toNat : Int) = 48 := by rw [hg]; omega
        have HB := hide hb
        clear hb hg
        go_wp2
        have hv2 : dval (bytesOf (y.extract 1 y.size)) = dval (bytesOf s) := by
          rw [← HYV.out, HB.out, dval, hz]
          simp
        have hd2 : Dig (bytesOf (y.extract 1 y.size)) := by
          have := HYD.out
          rw [HB.out] at this
          exact (dig_cons.1 this).2
        have hs2 : (y.extract 1 y.size).size = y.size - 1 := by rw [ByteArray.size_extract]; omega
        exact ⟨⟨_, rfl, by omega, by omega, hd2, hv2, trivial⟩, by show (y.extract 1 y.size).size < y.size; omega⟩
      · have hz' : ((y[0]'hy0).toNat : Int) ≠ 48 := by rw [hg]; omega
        have HB := hide hb
        clear hb hg
        go_wp2
        go_ret
        exact ⟨rfl, bytesOf y, ⟨HYD.out, HYV.out, .inr ⟨_, _, HB.out, by omega⟩⟩, by rw [strOf_bytes]; rfl, by rw [bytesOf_length]; omega⟩
    · have h1' : decide ((1 : Int) < (y.size : Int)) = false := by simp; omega
      have HB := hide hb
      clear hb hg
      go_wp2
      go_ret
      have hnil : bytesOf (y.extract 1 y.size) = [] := List.eq_nil_of_length_eq_zero (by rw [bytesOf_length, ByteArray.size_extract]; omega)
      have hB := HB.out
      rw [hnil] at hB
      refine ⟨rfl, bytesOf y, ⟨HYD.out, HYV.out, ?_⟩, by rw [strOf_bytes]; rfl, by rw [bytesOf_length]; omega⟩
      by_cases h48 : (y.get! 0).toNat = 48
      · refine .inl ⟨?_, by rw [hB, h48]; rfl⟩
        rw [← HYV.out, hB, h48]; rfl
      · exact .inr ⟨_, _, hB, by omega⟩
theorem dm_p10 (n : Nat) : Dm.pw n = p10 (4 * n) := by
  induction n with
  | zero => rfl
  | succ n ih =>
    rw [Dm.pw, ih, show 4 * (n + 1) = 4 * n + 1 + 1 + 1 + 1 from by omega]
    simp only [p10]
    omega
theorem p308 : p10 308 ≤ pw 32 := by decide +kernel
set_option maxRecDepth 20000 in
set_option maxHeartbeats 1000000 in
theorem big_any (w : World) (ax : Option Addr) (cx : Nat) (xs : List Int) (x : Int) (hx : 0 ≤ x) (G : Dm.Got w ax cx xs x) (L : xs.length ≤ 6000) (m : Nat) (hm : IsLen x m) :
    Calls Tryd.prog 45 #[.agg #[.bool false, .slice ax xs.length cx]] w fun e w' => e = .returned (.bool (decide (32 < m))) ∧ Below w.heap.size w w' := by
  have hn : (x.natAbs : Int) = x := by omega
  have HW : Hid (Dm.Wh w false ax cx xs x) := ⟨by rw [hn]; exact G, by simp; omega⟩
  have HM : Hid (IsLen (x.natAbs : Int) m) := by rw [hn]; exact hm
  have hsl : xs.length ≤ 77 → m ≤ 32 := by
    intro h
    obtain ⟨rs, c, v, rfl⟩ := hm
    refine canon_len c (m := 32) ?_
    have h1 := (Dm.val_bounds G.2.1.1).2
    rw [G.2.2] at h1
    have h2 := p10_mono (m := 4 * xs.length) (n := 308) (by omega)
    rw [dm_p10] at h1
    have h3 := p308
    omega
  have HS := hide hsl
  clear hn hm G hsl
  by_cases h77 : 77 < xs.length
  · have h77' : (77 : Int) < (xs.length : Int) := by omega
    generalize hxl : xs.length = n at *
    go_enter Tryd.func45, Tryd.ntmps45
    go_wp2_with fail
    have hb1 : Below w.heap.size w (w.alloc (.cells #[.bool false, .slice ax n cx] 86)) := (Below.refl _ _).alloc (Nat.le_refl _) _
    have K := nlong_z (w.alloc (.cells #[.bool false, .slice ax n cx] 86)) 6000 false ax cx xs x (HW.out.below hb1) (by omega) (by omega) m HM.out
    rw [hxl] at K
    refine K.mono ?_
    rintro e w2 ⟨v, rfl, hv, hb2⟩
    obtain rfl : v = .int .i64 (m : Int) := hv
    have hB := hb1.trans (hb2.mono hb1.size)
    clear hb1 hb2 K
    have hd : decide ((32 : Int) < (m : Int)) = decide (32 < m) := by simp; omega
    go_wp2
    all_goals go_ret
    all_goals (refine ⟨?_, hB⟩; simp)
  · have h77' : decide ((77 : Int) < (xs.length : Int)) = false := by simp; omega
    have hd : decide (32 < m) = false := by have := HS.out (by omega); simp; omega
    rw [hd]
    generalize xs.length = n at *
    go_enter Tryd.func45, Tryd.ntmps45
    go_wp2
    go_ret
    exact ⟨by rfl, by (repeat' (first | (with_reducible exact Below.refl _ _) | (with_reducible assumption) | (with_reducible refine gdrewN ?_ _) | (with_reducible refine Below.alloc ?_ ?_ _) | (with_reducible refine Below.drew ?_) | (with_reducible refine Below.setCell ?_ ?_ _) | go_size))⟩
end Lm
end Go.Proofs.YtgfglefgpgckiaaDoor

namespace Go.Proofs.YtgfglefgpgckiaaDoor
namespace Lm
open Go Go.RowKit
theorem encode_one {c : Int} (h : 0 ≤ c ∧ c < 128) : Utf8.encode c = strOfNums [c] := by
  obtain ⟨n, rfl⟩ : ∃ n : Nat, c = n := ⟨c.toNat, by omega⟩
  unfold Utf8.encode
  have hv : Utf8.valid (n : Int) = true := by simp [Utf8.valid]; omega
  simp only [hv, if_true]
  rw [if_pos (by omega)]
  rfl
theorem Tq.six {w w' : World} {q f : Nat} (h : Tq w w' q) (hf : w.heap.size ≤ f) (u0 u1 u2 u3 u4 u5 : Value) : Tq w ((((((w'.setCell ⟨f, 0, none⟩ u0).setCell ⟨f, 1, none⟩ u1).setCell ⟨f, 2, none⟩ u2).setCell ⟨f, 3, none⟩ u3).setCell ⟨f, 4, none⟩ u4).setCell ⟨f, 5, none⟩ u5) q :=
  h.setNew hf 0 _ |>.setNew hf 1 _ |>.setNew hf 2 _ |>.setNew hf 3 _ |>.setNew hf 4 _ |>.setNew hf 5 _
set_option maxRecDepth 20000 in
set_option maxHeartbeats 1000000 in
theorem sign_one (w : World) (q : Nat) (s : ByteArray) (v : Value) (gs : List Gl) (i : Nat) (e : Pl) (h : Scn w q s v gs i e) (hn : gs.length ≤ 100000) (g : Gl) (hg : gs[i]? = some g) (c : Int) (hc : gfold g.code = c) (h0 : 0 ≤ c ∧ c < 128) (h1 : c ≠ 58) (h2 : c ≠ 33) :
    Calls Tryd.prog 52 #[.pointer (some ⟨q, 0, none⟩)] w fun r w' => Scn w' q s v gs (i + 1) e ∧ Tq w w' q ∧ r = .returned (.tuple #[.agg #[.int .i64 3, .string (strOfNums [c]), .int .i64 0, .int .i64 0, .int .i64 0, .int .i64 0], .int .i64 0]) := by
  have H := hide h
  have hi : i < gs.length := (List.getElem?_eq_some_iff.1 hg).1
  have hil : (i : Int) < 100000 := by omega
  obtain ⟨ao, cap, rfl⟩ := h.gls.isSlice
  obtain ⟨b, off, rfl, hG⟩ := h.gls.glyph hg
  obtain ⟨hq, k0, k1, k2, k3, k4, k5, k6⟩ := h.cells
  obtain ⟨hb, g0, g1, g2, g3, g4, g5⟩ := hG
  have hfr := h.free 2
  have hi' : (i : Int) < (gs.length : Int) := by omega
  have KF : ∀ w, Calls Tryd.prog 58 #[.int .i64 g.code] w fun e w' => e = .returned (.int .i64 c) ∧ w' = w := fun w => by rw [← hc]; exact gfold_any w _
  have n8788 : (c == 8788) = false := beq_eq_false_iff_ne.2 (by omega)
  have n8800 : (c == 8800) = false := beq_eq_false_iff_ne.2 (by omega)
  have n58 : (c == 58) = false := beq_eq_false_iff_ne.2 (by omega)
  have n33 : (c == 33) = false := beq_eq_false_iff_ne.2 (by omega)
  clear h hg hc k0 k3 k4 k5 k6 g1 g2 g3 g4 g5
  go_enter Tryd.func52, Tryd.ntmps52
  go_wp2_with fail
  go_quiet ((go_at_call 58; exact Calls.quiet_of_same (KF _)))
  go_wp2
  refine bodyPost_ret (v := _) (by simp [results, Tryd.results52, go_sem]; try rfl) rfl ⟨?_, ?_, ?_⟩
  · refine H.out.of_tq (Tq.six ((Tq.of_below (by (repeat' (first | (with_reducible exact Below.refl _ _) | (with_reducible assumption) | (with_reducible refine gdrewN ?_ _) | (with_reducible refine Below.alloc ?_ ?_ _) | (with_reducible refine Below.drew ?_) | (with_reducible refine Below.setCell ?_ ?_ _) | go_size)))).set 2 _) (Nat.le_refl _) _ _ _ _ _ _) ((six_other _ _ _ (by omega) _ _ _ _ _ _).trans ?_) (by omega)
    rw [heap_setCell_same _ q 2 _ _ _ ((Below.block (B := w.heap.size) (by (repeat' (first | (with_reducible exact Below.refl _ _) | (with_reducible assumption) | (with_reducible refine gdrewN ?_ _) | (with_reducible refine Below.alloc ?_ ?_ _) | (with_reducible refine Below.drew ?_) | (with_reducible refine Below.setCell ?_ ?_ _) | go_size))) q hq).trans H.out.blk)]
    simp
  · exact Tq.six ((Tq.of_below (by (repeat' (first | (with_reducible exact Below.refl _ _) | (with_reducible assumption) | (with_reducible refine gdrewN ?_ _) | (with_reducible refine Below.alloc ?_ ?_ _) | (with_reducible refine Below.drew ?_) | (with_reducible refine Below.setCell ?_ ?_ _) | go_size)))).set 2 _) (Nat.le_refl _) _ _ _ _ _ _
  · simp [encode_one h0]
set_option maxRecDepth 20000 in
set_option maxHeartbeats 1000000 in
theorem sign_becomes (w : World) (q : Nat) (s : ByteArray) (v : Value) (gs : List Gl) (i : Nat) (e : Pl) (h : Scn w q s v gs i e) (hn : gs.length ≤ 100000) (g : Gl) (hg : gs[i]? = some g) (c : Int) (hc : gfold g.code = c) (h0 : c = 8788) :
    Calls Tryd.prog 52 #[.pointer (some ⟨q, 0, none⟩)] w fun r w' => Scn w' q s v gs (i + 1) e ∧ Tq w w' q ∧ r = .returned (.tuple #[.agg #[.int .i64 3, .string (strOfNums [58, 61]), .int .i64 0, .int .i64 0, .int .i64 0, .int .i64 0], .int .i64 0]) := by
  have H := hide h
  have hi : i < gs.length := (List.getElem?_eq_some_iff.1 hg).1
  have hil : (i : Int) < 100000 := by omega
  obtain ⟨ao, cap, rfl⟩ := h.gls.isSlice
  obtain ⟨b, off, rfl, hG⟩ := h.gls.glyph hg
  obtain ⟨hq, k0, k1, k2, k3, k4, k5, k6⟩ := h.cells
  obtain ⟨hb, g0, g1, g2, g3, g4, g5⟩ := hG
  have hfr := h.free 2
  have hi' : (i : Int) < (gs.length : Int) := by omega
  have KF : ∀ w, Calls Tryd.prog 58 #[.int .i64 g.code] w fun e w' => e = .returned (.int .i64 c) ∧ w' = w := fun w => by rw [← hc]; exact gfold_any w _
  subst h0
  clear h hg hc k0 k3 k4 k5 k6 g1 g2 g3 g4 g5
  go_enter Tryd.func52, Tryd.ntmps52
  go_wp2_with fail
  go_quiet ((go_at_call 58; exact Calls.quiet_of_same (KF _)))
  go_wp2
  refine bodyPost_ret (v := _) (by simp [results, Tryd.results52, go_sem]; try rfl) rfl ⟨?_, ?_, ?_⟩
  · refine H.out.of_tq (Tq.six ((Tq.of_below (by (repeat' (first | (with_reducible exact Below.refl _ _) | (with_reducible assumption) | (with_reducible refine gdrewN ?_ _) | (with_reducible refine Below.alloc ?_ ?_ _) | (with_reducible refine Below.drew ?_) | (with_reducible refine Below.setCell ?_ ?_ _) | go_size)))).set 2 _) (Nat.le_refl _) _ _ _ _ _ _) ((six_other _ _ _ (by omega) _ _ _ _ _ _).trans ?_) (by omega)
    rw [heap_setCell_same _ q 2 _ _ _ ((Below.block (B := w.heap.size) (by (repeat' (first | (with_reducible exact Below.refl _ _) | (with_reducible assumption) | (with_reducible refine gdrewN ?_ _) | (with_reducible refine Below.alloc ?_ ?_ _) | (with_reducible refine Below.drew ?_) | (with_reducible refine Below.setCell ?_ ?_ _) | go_size))) q hq).trans H.out.blk)]
    simp
  · exact Tq.six ((Tq.of_below (by (repeat' (first | (with_reducible exact Below.refl _ _) | (with_reducible assumption) | (with_reducible refine gdrewN ?_ _) | (with_reducible refine Below.alloc ?_ ?_ _) | (with_reducible refine Below.drew ?_) | (with_reducible refine Below.setCell ?_ ?_ _) | go_size)))).set 2 _) (Nat.le_refl _) _ _ _ _ _ _
  · rfl
set_option maxRecDepth 20000 in
set_option maxHeartbeats 1000000 in
theorem sign_unlike (w : World) (q : Nat) (s : ByteArray) (v : Value) (gs : List Gl) (i : Nat) (e : Pl) (h : Scn w q s v gs i e) (hn : gs.length ≤ 100000) (g : Gl) (hg : gs[i]? = some g) (c : Int) (hc : gfold g.code = c) (h0 : c = 8800) :
    Calls Tryd.prog 52 #[.pointer (some ⟨q, 0, none⟩)] w fun r w' => Scn w' q s v gs (i + 1) e ∧ Tq w w' q ∧ r = .returned (.tuple #[.agg #[.int .i64 3, .string (strOfNums [33, 61]), .int .i64 0, .int .i64 0, .int .i64 0, .int .i64 0], .int .i64 0]) := by
  have H := hide h
  have hi : i < gs.length := (List.getElem?_eq_some_iff.1 hg).1
  have hil : (i : Int) < 100000 := by omega
  obtain ⟨ao, cap, rfl⟩ := h.gls.isSlice
  obtain ⟨b, off, rfl, hG⟩ := h.gls.glyph hg
  obtain ⟨hq, k0, k1, k2, k3, k4, k5, k6⟩ := h.cells
  obtain ⟨hb, g0, g1, g2, g3, g4, g5⟩ := hG
  have hfr := h.free 2
  have hi' : (i : Int) < (gs.length : Int) := by omega
  have KF : ∀ w, Calls Tryd.prog 58 #[.int .i64 g.code] w fun e w' => e = .returned (.int .i64 c) ∧ w' = w := fun w => by rw [← hc]; exact gfold_any w _
  subst h0
  clear h hg hc k0 k3 k4 k5 k6 g1 g2 g3 g4 g5
  go_enter Tryd.func52, Tryd.ntmps52
  go_wp2_with fail
  go_quiet ((go_at_call 58; exact Calls.quiet_of_same (KF _)))
  go_wp2
  refine bodyPost_ret (v := _) (by simp [results, Tryd.results52, go_sem]; try rfl) rfl ⟨?_, ?_, ?_⟩
  · refine H.out.of_tq (Tq.six ((Tq.of_below (by (repeat' (first | (with_reducible exact Below.refl _ _) | (with_reducible assumption) | (with_reducible refine gdrewN ?_ _) | (with_reducible refine Below.alloc ?_ ?_ _) | (with_reducible refine Below.drew ?_) | (with_reducible refine Below.setCell ?_ ?_ _) | go_size)))).set 2 _) (Nat.le_refl _) _ _ _ _ _ _) ((six_other _ _ _ (by omega) _ _ _ _ _ _).trans ?_) (by omega)
    rw [heap_setCell_same _ q 2 _ _ _ ((Below.block (B := w.heap.size) (by (repeat' (first | (with_reducible exact Below.refl _ _) | (with_reducible assumption) | (with_reducible refine gdrewN ?_ _) | (with_reducible refine Below.alloc ?_ ?_ _) | (with_reducible refine Below.drew ?_) | (with_reducible refine Below.setCell ?_ ?_ _) | go_size))) q hq).trans H.out.blk)]
    simp
  · exact Tq.six ((Tq.of_below (by (repeat' (first | (with_reducible exact Below.refl _ _) | (with_reducible assumption) | (with_reducible refine gdrewN ?_ _) | (with_reducible refine Below.alloc ?_ ?_ _) | (with_reducible refine Below.drew ?_) | (with_reducible refine Below.setCell ?_ ?_ _) | go_size)))).set 2 _) (Nat.le_refl _) _ _ _ _ _ _
  · rfl
set_option maxRecDepth 20000 in
set_option maxHeartbeats 1000000 in
theorem sign_colon (w : World) (q : Nat) (s : ByteArray) (v : Value) (gs : List Gl) (i : Nat) (e : Pl) (h : Scn w q s v gs i e) (hn : gs.length ≤ 100000) (g : Gl) (hg : gs[i]? = some g) (c : Int) (hc : gfold g.code = c) (h0 : c = 58) (gn : Gl) (hg2 : gs[i + 1]? = some gn) (he2 : gn.code = 61) :
    Calls Tryd.prog 52 #[.pointer (some ⟨q, 0, none⟩)] w fun r w' => Scn w' q s v gs (i + 2) e ∧ Tq w w' q ∧ r = .returned (.tuple #[.agg #[.int .i64 3, .string (strOfNums [58, 61]), .int .i64 0, .int .i64 0, .int .i64 0, .int .i64 0], .int .i64 0]) := by
  have H := hide h
  have hi : i < gs.length := (List.getElem?_eq_some_iff.1 hg).1
  have hil : (i : Int) < 100000 := by omega
  obtain ⟨ao, cap, rfl⟩ := h.gls.isSlice
  obtain ⟨b, off, rfl, hG⟩ := h.gls.glyph hg
  obtain ⟨hq, k0, k1, k2, k3, k4, k5, k6⟩ := h.cells
  obtain ⟨hb, g0, g1, g2, g3, g4, g5⟩ := hG
  have hfr := h.free 2
  have hi' : (i : Int) < (gs.length : Int) := by omega
  have KF : ∀ w, Calls Tryd.prog 58 #[.int .i64 g.code] w fun e w' => e = .returned (.int .i64 c) ∧ w' = w := fun w => by rw [← hc]; exact gfold_any w _
  subst h0
  clear h hg hc k0 k3 k4 k5 k6 g1 g2 g3 g4 g5
  go_enter Tryd.func52, Tryd.ntmps52
  go_wp2_with fail
  go_quiet ((go_at_call 58; exact Calls.quiet_of_same (KF _)))
  go_wp2_with fail
  generalize hE : Utf8.encode 58 = T
  have HE := hide ((encode_one (c := 58) (by omega)).symm.trans hE)
  have hTs : T.size ≤ 10 := by rw [← HE.out, strOfNums_size]; simp
  have hadd : ∀ w, (Op.stringOp .add T ⟨#[61]⟩).run Tryd.prog w = .ok (.string (T ++ ⟨#[61]⟩)) w := fun w => run_string_add_sum (P := Tryd.prog) w T ⟨#[61]⟩ (by show T.size + 1 ≤ _; omega)
  generalize hU : T ++ (⟨#[61]⟩ : ByteArray) = U at hadd
  have HU := hide hU
  clear hU hTs
  clear hE
  have hbq : Below w.heap.size w ((w.alloc (.cells #[.int .i64 0, .string ⟨#[]⟩, .int .i64 0, .int .i64 0, .int .i64 0, .int .i64 0] 35)).drewN nq) := by (repeat' (first | (with_reducible exact Below.refl _ _) | (with_reducible assumption) | (with_reducible refine gdrewN ?_ _) | (with_reducible refine Below.alloc ?_ ?_ _) | (with_reducible refine Below.drew ?_) | (with_reducible refine Below.setCell ?_ ?_ _) | go_size))
  have HT1 := hide ((Tq.of_below (q := q) hbq).set 2 (.int .i64 ((i : Int) + 1)))
  have HS1 := hide ((H.out.below hbq).set (by omega))
  have HT0 : Hid (Tk0B (((w.alloc (.cells #[.int .i64 0, .string ⟨#[]⟩, .int .i64 0, .int .i64 0, .int .i64 0, .int .i64 0] 35)).drewN nq).setCell ⟨q, 2, none⟩ (.int .i64 ((i : Int) + 1))) w.heap.size) := ((heap_setCell_other _ ⟨q, 2, none⟩ w.heap.size _ (by show w.heap.size ≠ q; omega)).trans (heap_alloc_new w _))
  clear hbq k1 k2 hfr g0 hb
  generalize ((w.alloc (.cells #[.int .i64 0, .string ⟨#[]⟩, .int .i64 0, .int .i64 0, .int .i64 0, .int .i64 0] 35)).drewN nq).setCell ⟨q, 2, none⟩ (.int .i64 ((i : Int) + 1)) = w1 at HT1 HS1 HT0 ⊢
  obtain ⟨m, hm⟩ : ∃ m, m = i + 1 := ⟨_, rfl⟩
  rw [← hm] at HS1 hg2
  obtain ⟨b2, off2, e2, hG2⟩ := HS1.out.gls.glyph hg2
  obtain ⟨rfl, rfl⟩ : b2 = b ∧ off2 = off := by simpa [eq_comm] using e2
  obtain ⟨hq1, k0, k1, k2, k3, k4, k5, k6⟩ := HS1.out.cells
  obtain ⟨hb, g0, g1, g2, g3, g4, g5⟩ := hG2
  rw [he2] at g0
  have hfr := HS1.out.free 2
  obtain ⟨hfl, t0, t1, t2, t3, t4, t5, f0, f1, f2, f3, f4, f5⟩ := HT0.out.cells
  have hi2 : (m : Int) < (gs.length : Int) := by have := (List.getElem?_eq_some_iff.1 hg2).1; omega
  have hne2 : ((m : Int) == (gs.length : Int)) = false := beq_eq_false_iff_ne.2 (by omega)
  have HM := hide hm
  clear e2 k0 k3 k4 k5 k6 g1 g2 g3 g4 g5 hm
  go_wp2_with fail
  go_quiet (fail)
  clear k1 k2 g0 t0 t1 t2 t3 t4 t5 f0 f1 f2 f3 f4 f5 hfr hfl hb hq1
  have hbq : Below w1.heap.size w1 (w1.drewN nq) := by (repeat' (first | (with_reducible exact Below.refl _ _) | (with_reducible assumption) | (with_reducible refine gdrewN ?_ _) | (with_reducible refine Below.alloc ?_ ?_ _) | (with_reducible refine Below.drew ?_) | (with_reducible refine Below.setCell ?_ ?_ _) | go_size))
  replace HT1 := hide (HT1.out.trans (.of_below hbq))
  replace HS1 := hide (HS1.out.below hbq)
  replace HT0 := hide (HT0.out.below hbq)
  clear hbq
  generalize w1.drewN nq = w2 at HT1 HS1 HT0 ⊢
  generalize hf : w.heap.size = f at *
  replace hf : w.heap.size ≤ f := by omega
  have hqf : q ≠ f := by omega
  obtain ⟨hq1, k0, k1, k2, k3, k4, k5, k6⟩ := HS1.out.cells
  have hfr := HS1.out.free 2
  clear k0 k1 k3 k4 k5 k6
  have hml : (m : Int) < 100000 := by omega
  obtain ⟨hfl, t0, t1, t2, t3, t4, t5, f0, f1, f2, f3, f4, f5⟩ := HT0.out.cells
  clear hne2 hg2 he2 hi hil KF
  go_wp2
  refine bodyPost_ret (v := _) (by simp [results, Tryd.results52, go_sem, t0, t1, t2, t3, t4, t5]; try rfl) rfl ⟨?_, ?_, ?_⟩
  · refine H.out.of_tq (Tq.six (HT1.out.set 2 _) hf _ _ _ _ _ _) ((six_other _ _ _ hqf _ _ _ _ _ _).trans ?_) (by have := HM.out; omega)
    rw [heap_setCell_same w2 q 2 _ _ _ HS1.out.blk]
    have := HM.out
    simp
    omega
  · exact Tq.six (HT1.out.set 2 _) hf _ _ _ _ _ _
  · rw [← HU.out, ← HE.out]
    rfl
set_option maxRecDepth 20000 in
set_option maxHeartbeats 1000000 in
theorem sign_colon_other (w : World) (q : Nat) (s : ByteArray) (v : Value) (gs : List Gl) (i : Nat) (e : Pl) (h : Scn w q s v gs i e) (hn : gs.length ≤ 100000) (g : Gl) (hg : gs[i]? = some g) (c : Int) (hc : gfold g.code = c) (h0 : c = 58) (gn : Gl) (hg2 : gs[i + 1]? = some gn) (he2 : gn.code ≠ 61) :
    Calls Tryd.prog 52 #[.pointer (some ⟨q, 0, none⟩)] w fun r w' => Scn w' q s v gs (i + 1) e ∧ Tq w w' q ∧ r = .returned (.tuple #[tok0, .int .i64 41]) := by
  have H := hide h
  have hi : i < gs.length := (List.getElem?_eq_some_iff.1 hg).1
  have hil : (i : Int) < 100000 := by omega
  obtain ⟨ao, cap, rfl⟩ := h.gls.isSlice
  obtain ⟨b, off, rfl, hG⟩ := h.gls.glyph hg
  obtain ⟨hq, k0, k1, k2, k3, k4, k5, k6⟩ := h.cells
  obtain ⟨hb, g0, g1, g2, g3, g4, g5⟩ := hG
  have hfr := h.free 2
  have hi' : (i : Int) < (gs.length : Int) := by omega
  have KF : ∀ w, Calls Tryd.prog 58 #[.int .i64 g.code] w fun e w' => e = .returned (.int .i64 c) ∧ w' = w := fun w => by rw [← hc]; exact gfold_any w _
  subst h0
  clear h hg hc k0 k3 k4 k5 k6 g1 g2 g3 g4 g5
  unfold tok0
  go_enter Tryd.func52, Tryd.ntmps52
  go_wp2_with fail
  go_quiet ((go_at_call 58; exact Calls.quiet_of_same (KF _)))
  go_wp2_with fail
  generalize hE : Utf8.encode 58 = T
  have HE := hide ((encode_one (c := 58) (by omega)).symm.trans hE)
  have hTs : T.size ≤ 10 := by rw [← HE.out, strOfNums_size]; simp
  have hadd : ∀ w, (Op.stringOp .add T ⟨#[61]⟩).run Tryd.prog w = .ok (.string (T ++ ⟨#[61]⟩)) w := fun w => run_string_add_sum (P := Tryd.prog) w T ⟨#[61]⟩ (by show T.size + 1 ≤ _; omega)
  generalize hU : T ++ (⟨#[61]⟩ : ByteArray) = U at hadd
  have HU := hide hU
  clear hU hTs
  clear hE
  have hbq : Below w.heap.size w ((w.alloc (.cells #[.int .i64 0, .string ⟨#[]⟩, .int .i64 0, .int .i64 0, .int .i64 0, .int .i64 0] 35)).drewN nq) := by (repeat' (first | (with_reducible exact Below.refl _ _) | (with_reducible assumption) | (with_reducible refine gdrewN ?_ _) | (with_reducible refine Below.alloc ?_ ?_ _) | (with_reducible refine Below.drew ?_) | (with_reducible refine Below.setCell ?_ ?_ _) | go_size))
  have HT1 := hide ((Tq.of_below (q := q) hbq).set 2 (.int .i64 ((i : Int) + 1)))
  have HS1 := hide ((H.out.below hbq).set (by omega))
  have HT0 : Hid (Tk0B (((w.alloc (.cells #[.int .i64 0, .string ⟨#[]⟩, .int .i64 0, .int .i64 0, .int .i64 0, .int .i64 0] 35)).drewN nq).setCell ⟨q, 2, none⟩ (.int .i64 ((i : Int) + 1))) w.heap.size) := ((heap_setCell_other _ ⟨q, 2, none⟩ w.heap.size _ (by show w.heap.size ≠ q; omega)).trans (heap_alloc_new w _))
  clear hbq k1 k2 hfr g0 hb
  generalize ((w.alloc (.cells #[.int .i64 0, .string ⟨#[]⟩, .int .i64 0, .int .i64 0, .int .i64 0, .int .i64 0] 35)).drewN nq).setCell ⟨q, 2, none⟩ (.int .i64 ((i : Int) + 1)) = w1 at HT1 HS1 HT0 ⊢
  obtain ⟨m, hm⟩ : ∃ m, m = i + 1 := ⟨_, rfl⟩
  rw [← hm] at HS1 hg2
  obtain ⟨b2, off2, e2, hG2⟩ := HS1.out.gls.glyph hg2
  obtain ⟨rfl, rfl⟩ : b2 = b ∧ off2 = off := by simpa [eq_comm] using e2
  obtain ⟨hq1, k0, k1, k2, k3, k4, k5, k6⟩ := HS1.out.cells
  obtain ⟨hb, g0, g1, g2, g3, g4, g5⟩ := hG2
  have hne61 : ((gn.code : Int) != 61) = true := by simp; omega
  have hfr := HS1.out.free 2
  obtain ⟨hfl, t0, t1, t2, t3, t4, t5, f0, f1, f2, f3, f4, f5⟩ := HT0.out.cells
  have hi2 : (m : Int) < (gs.length : Int) := by have := (List.getElem?_eq_some_iff.1 hg2).1; omega
  have hne2 : ((m : Int) == (gs.length : Int)) = false := beq_eq_false_iff_ne.2 (by omega)
  have HM := hide hm
  clear e2 k0 k3 k4 k5 k6 g1 g2 g3 g4 g5 hm
  go_wp2_with fail
  go_quiet (fail)
  clear k1 k2 g0 t0 t1 t2 t3 t4 t5 f0 f1 f2 f3 f4 f5 hfr hfl hb hq1
  have hbq : Below w1.heap.size w1 (w1.drewN nq) := by (repeat' (first | (with_reducible exact Below.refl _ _) | (with_reducible assumption) | (with_reducible refine gdrewN ?_ _) | (with_reducible refine Below.alloc ?_ ?_ _) | (with_reducible refine Below.drew ?_) | (with_reducible refine Below.setCell ?_ ?_ _) | go_size))
  replace HT1 := hide (HT1.out.trans (.of_below hbq))
  replace HS1 := hide (HS1.out.below hbq)
  replace HT0 := hide (HT0.out.below hbq)
  clear hbq
  generalize w1.drewN nq = w2 at HT1 HS1 HT0 ⊢
  generalize hf : w.heap.size = f at *
  replace hf : w.heap.size ≤ f := by omega
  have hqf : q ≠ f := by omega
  obtain ⟨hq1, k0, k1, k2, k3, k4, k5, k6⟩ := HS1.out.cells
  have hfr := HS1.out.free 2
  clear k0 k1 k3 k4 k5 k6
  have hml : (m : Int) < 100000 := by omega
  obtain ⟨hfl, t0, t1, t2, t3, t4, t5, f0, f1, f2, f3, f4, f5⟩ := HT0.out.cells
  clear hne2 hg2 he2 hne61 hi hil KF
  go_wp2
  refine bodyPost_ret (v := _) (by simp [results, Tryd.results52, go_sem, t0, t1, t2, t3, t4, t5]; try rfl) rfl ⟨?_, ?_, ?_⟩
  · refine H.out.of_tq (Tq.six HT1.out hf _ _ _ _ _ _) ((six_other _ _ _ hqf _ _ _ _ _ _).trans ?_) (by have := HM.out; omega)
    rw [HS1.out.blk, HM.out]
  · exact Tq.six HT1.out hf _ _ _ _ _ _
  · rfl
set_option maxRecDepth 20000 in
set_option maxHeartbeats 1000000 in
theorem sign_colon_none (w : World) (q : Nat) (s : ByteArray) (v : Value) (gs : List Gl) (i : Nat) (e : Pl) (h : Scn w q s v gs i e) (hn : gs.length ≤ 100000) (g : Gl) (hg : gs[i]? = some g) (c : Int) (hc : gfold g.code = c) (h0 : c = 58) (hg2 : gs.length ≤ i + 1) :
    Calls Tryd.prog 52 #[.pointer (some ⟨q, 0, none⟩)] w fun r w' => Scn w' q s v gs (i + 1) e ∧ Tq w w' q ∧ r = .returned (.tuple #[tok0, .int .i64 41]) := by
  have H := hide h
  have hi : i < gs.length := (List.getElem?_eq_some_iff.1 hg).1
  have hil : (i : Int) < 100000 := by omega
  obtain ⟨ao, cap, rfl⟩ := h.gls.isSlice
  obtain ⟨b, off, rfl, hG⟩ := h.gls.glyph hg
  obtain ⟨hq, k0, k1, k2, k3, k4, k5, k6⟩ := h.cells
  obtain ⟨hb, g0, g1, g2, g3, g4, g5⟩ := hG
  have hfr := h.free 2
  have hi' : (i : Int) < (gs.length : Int) := by omega
  have KF : ∀ w, Calls Tryd.prog 58 #[.int .i64 g.code] w fun e w' => e = .returned (.int .i64 c) ∧ w' = w := fun w => by rw [← hc]; exact gfold_any w _
  subst h0
  clear h hg hc k0 k3 k4 k5 k6 g1 g2 g3 g4 g5
  unfold tok0
  go_enter Tryd.func52, Tryd.ntmps52
  go_wp2_with fail
  go_quiet ((go_at_call 58; exact Calls.quiet_of_same (KF _)))
  go_wp2_with fail
  generalize hE : Utf8.encode 58 = T
  have HE := hide ((encode_one (c := 58) (by omega)).symm.trans hE)
  have hTs : T.size ≤ 10 := by rw [← HE.out, strOfNums_size]; simp
  have hadd : ∀ w, (Op.stringOp .add T ⟨#[61]⟩).run Tryd.prog w = .ok (.string (T ++ ⟨#[61]⟩)) w := fun w => run_string_add_sum (P := Tryd.prog) w T ⟨#[61]⟩ (by show T.size + 1 ≤ _; omega)
  generalize hU : T ++ (⟨#[61]⟩ : ByteArray) = U at hadd
  have HU := hide hU
  clear hU hTs
  clear hE
  have hbq : Below w.heap.size w ((w.alloc (.cells #[.int .i64 0, .string ⟨#[]⟩, .int .i64 0, .int .i64 0, .int .i64 0, .int .i64 0] 35)).drewN nq) := by (repeat' (first | (with_reducible exact Below.refl _ _) | (with_reducible assumption) | (with_reducible refine gdrewN ?_ _) | (with_reducible refine Below.alloc ?_ ?_ _) | (with_reducible refine Below.drew ?_) | (with_reducible refine Below.setCell ?_ ?_ _) | go_size))
  have HT1 := hide ((Tq.of_below (q := q) hbq).set 2 (.int .i64 ((i : Int) + 1)))
  have HS1 := hide ((H.out.below hbq).set (by omega))
  have HT0 : Hid (Tk0B (((w.alloc (.cells #[.int .i64 0, .string ⟨#[]⟩, .int .i64 0, .int .i64 0, .int .i64 0, .int .i64 0] 35)).drewN nq).setCell ⟨q, 2, none⟩ (.int .i64 ((i : Int) + 1))) w.heap.size) := ((heap_setCell_other _ ⟨q, 2, none⟩ w.heap.size _ (by show w.heap.size ≠ q; omega)).trans (heap_alloc_new w _))
  clear hbq k1 k2 hfr g0 hb
  generalize ((w.alloc (.cells #[.int .i64 0, .string ⟨#[]⟩, .int .i64 0, .int .i64 0, .int .i64 0, .int .i64 0] 35)).drewN nq).setCell ⟨q, 2, none⟩ (.int .i64 ((i : Int) + 1)) = w1 at HT1 HS1 HT0 ⊢
  obtain ⟨m, hm⟩ : ∃ m, m = i + 1 := ⟨_, rfl⟩
  rw [← hm] at HS1
  obtain ⟨hq1, k0, k1, k2, k3, k4, k5, k6⟩ := HS1.out.cells
  obtain ⟨hfl, t0, t1, t2, t3, t4, t5, f0, f1, f2, f3, f4, f5⟩ := HT0.out.cells
  have hne2 : ((m : Int) == (gs.length : Int)) = true := by simp; omega
  have HM := hide hm
  clear k0 k3 k4 k5 k6 hm
  go_wp2_with fail
  go_quiet (fail)
  clear k1 k2 t0 t1 t2 t3 t4 t5 f0 f1 f2 f3 f4 f5 hfl hq1
  have hbq : Below w1.heap.size w1 (w1.drewN nq) := by (repeat' (first | (with_reducible exact Below.refl _ _) | (with_reducible assumption) | (with_reducible refine gdrewN ?_ _) | (with_reducible refine Below.alloc ?_ ?_ _) | (with_reducible refine Below.drew ?_) | (with_reducible refine Below.setCell ?_ ?_ _) | go_size))
  replace HT1 := hide (HT1.out.trans (.of_below hbq))
  replace HS1 := hide (HS1.out.below hbq)
  replace HT0 := hide (HT0.out.below hbq)
  clear hbq
  generalize w1.drewN nq = w2 at HT1 HS1 HT0 ⊢
  generalize hf : w.heap.size = f at *
  replace hf : w.heap.size ≤ f := by omega
  have hqf : q ≠ f := by omega
  obtain ⟨hq1, k0, k1, k2, k3, k4, k5, k6⟩ := HS1.out.cells
  have hfr := HS1.out.free 2
  clear k0 k1 k3 k4 k5 k6
  have hml : (m : Int) < 100001 := by have := HM.out; omega
  obtain ⟨hfl, t0, t1, t2, t3, t4, t5, f0, f1, f2, f3, f4, f5⟩ := HT0.out.cells
  clear hne2 hi hil KF
  go_wp2
  refine bodyPost_ret (v := _) (by simp [results, Tryd.results52, go_sem, t0, t1, t2, t3, t4, t5]; try rfl) rfl ⟨?_, ?_, ?_⟩
  · refine H.out.of_tq (Tq.six HT1.out hf _ _ _ _ _ _) ((six_other _ _ _ hqf _ _ _ _ _ _).trans ?_) (by have := HM.out; omega)
    rw [HS1.out.blk, HM.out]
  · exact Tq.six HT1.out hf _ _ _ _ _ _
  · rfl
set_option maxRecDepth 20000 in
set_option maxHeartbeats 1000000 in
theorem sign_bang (w : World) (q : Nat) (s : ByteArray) (v : Value) (gs : List Gl) (i : Nat) (e : Pl) (h : Scn w q s v gs i e) (hn : gs.length ≤ 100000) (g : Gl) (hg : gs[i]? = some g) (c : Int) (hc : gfold g.code = c) (h0 : c = 33) (gn : Gl) (hg2 : gs[i + 1]? = some gn) (he2 : gn.code = 61) :
    Calls Tryd.prog 52 #[.pointer (some ⟨q, 0, none⟩)] w fun r w' => Scn w' q s v gs (i + 2) e ∧ Tq w w' q ∧ r = .returned (.tuple #[.agg #[.int .i64 3, .string (strOfNums [33, 61]), .int .i64 0, .int .i64 0, .int .i64 0, .int .i64 0], .int .i64 0]) := by
  have H := hide h
  have hi : i < gs.length := (List.getElem?_eq_some_iff.1 hg).1
  have hil : (i : Int) < 100000 := by omega
  obtain ⟨ao, cap, rfl⟩ := h.gls.isSlice
  obtain ⟨b, off, rfl, hG⟩ := h.gls.glyph hg
  obtain ⟨hq, k0, k1, k2, k3, k4, k5, k6⟩ := h.cells
  obtain ⟨hb, g0, g1, g2, g3, g4, g5⟩ := hG
  have hfr := h.free 2
  have hi' : (i : Int) < (gs.length : Int) := by omega
  have KF : ∀ w, Calls Tryd.prog 58 #[.int .i64 g.code] w fun e w' => e = .returned (.int .i64 c) ∧ w' = w := fun w => by rw [← hc]; exact gfold_any w _
  subst h0
  clear h hg hc k0 k3 k4 k5 k6 g1 g2 g3 g4 g5
  go_enter Tryd.func52, Tryd.ntmps52
  go_wp2_with fail
  go_quiet ((go_at_call 58; exact Calls.quiet_of_same (KF _)))
  go_wp2_with fail
  generalize hE : Utf8.encode 33 = T
  have HE := hide ((encode_one (c := 33) (by omega)).symm.trans hE)
  have hTs : T.size ≤ 10 := by rw [← HE.out, strOfNums_size]; simp
  have hadd : ∀ w, (Op.stringOp .add T ⟨#[61]⟩).run Tryd.prog w = .ok (.string (T ++ ⟨#[61]⟩)) w := fun w => run_string_add_sum (P := Tryd.prog) w T ⟨#[61]⟩ (by show T.size + 1 ≤ _; omega)
  generalize hU : T ++ (⟨#[61]⟩ : ByteArray) = U at hadd
  have HU := hide hU
  clear hU hTs
  clear hE
  have hbq : Below w.heap.size w ((w.alloc (.cells #[.int .i64 0, .string ⟨#[]⟩, .int .i64 0, .int .i64 0, .int .i64 0, .int .i64 0] 35)).drewN nq) := by (repeat' (first | (with_reducible exact Below.refl _ _) | (with_reducible assumption) | (with_reducible refine gdrewN ?_ _) | (with_reducible refine Below.alloc ?_ ?_ _) | (with_reducible refine Below.drew ?_) | (with_reducible refine Below.setCell ?_ ?_ _) | go_size))
  have HT1 := hide ((Tq.of_below (q := q) hbq).set 2 (.int .i64 ((i : Int) + 1)))
  have HS1 := hide ((H.out.below hbq).set (by omega))
  have HT0 : Hid (Tk0B (((w.alloc (.cells #[.int .i64 0, .string ⟨#[]⟩, .int .i64 0, .int .i64 0, .int .i64 0, .int .i64 0] 35)).drewN nq).setCell ⟨q, 2, none⟩ (.int .i64 ((i : Int) + 1))) w.heap.size) := ((heap_setCell_other _ ⟨q, 2, none⟩ w.heap.size _ (by show w.heap.size ≠ q; omega)).trans (heap_alloc_new w _))
  clear hbq k1 k2 hfr g0 hb
  generalize ((w.alloc (.cells #[.int .i64 0, .string ⟨#[]⟩, .int .i64 0, .int .i64 0, .int .i64 0, .int .i64 0] 35)).drewN nq).setCell ⟨q, 2, none⟩ (.int .i64 ((i : Int) + 1)) = w1 at HT1 HS1 HT0 ⊢
  obtain ⟨m, hm⟩ : ∃ m, m = i + 1 := ⟨_, rfl⟩
  rw [← hm] at HS1 hg2
  obtain ⟨b2, off2, e2, hG2⟩ := HS1.out.gls.glyph hg2
  obtain ⟨rfl, rfl⟩ : b2 = b ∧ off2 = off := by simpa [eq_comm] using e2
  obtain ⟨hq1, k0, k1, k2, k3, k4, k5, k6⟩ := HS1.out.cells
  obtain ⟨hb, g0, g1, g2, g3, g4, g5⟩ := hG2
  rw [he2] at g0
  have hfr := HS1.out.free 2
  obtain ⟨hfl, t0, t1, t2, t3, t4, t5, f0, f1, f2, f3, f4, f5⟩ := HT0.out.cells
  have hi2 : (m : Int) < (gs.length : Int) := by have := (List.getElem?_eq_some_iff.1 hg2).1; omega
  have hne2 : ((m : Int) == (gs.length : Int)) = false := beq_eq_false_iff_ne.2 (by omega)
  have HM := hide hm
  clear e2 k0 k3 k4 k5 k6 g1 g2 g3 g4 g5 hm
  go_wp2_with fail
  go_quiet (fail)
  clear k1 k2 g0 t0 t1 t2 t3 t4 t5 f0 f1 f2 f3 f4 f5 hfr hfl hb hq1
  have hbq : Below w1.heap.size w1 (w1.drewN nq) := by (repeat' (first | (with_reducible exact Below.refl _ _) | (with_reducible assumption) | (with_reducible refine gdrewN ?_ _) | (with_reducible refine Below.alloc ?_ ?_ _) | (with_reducible refine Below.drew ?_) | (with_reducible refine Below.setCell ?_ ?_ _) | go_size))
  replace HT1 := hide (HT1.out.trans (.of_below hbq))
  replace HS1 := hide (HS1.out.below hbq)
  replace HT0 := hide (HT0.out.below hbq)
  clear hbq
  generalize w1.drewN nq = w2 at HT1 HS1 HT0 ⊢
  generalize hf : w.heap.size = f at *
  replace hf : w.heap.size ≤ f := by omega
  have hqf : q ≠ f := by omega
  obtain ⟨hq1, k0, k1, k2, k3, k4, k5, k6⟩ := HS1.out.cells
  have hfr := HS1.out.free 2
  clear k0 k1 k3 k4 k5 k6
  have hml : (m : Int) < 100000 := by omega
  obtain ⟨hfl, t0, t1, t2, t3, t4, t5, f0, f1, f2, f3, f4, f5⟩ := HT0.out.cells
  clear hne2 hg2 he2 hi hil KF
  go_wp2
  refine bodyPost_ret (v := _) (by simp [results, Tryd.results52, go_sem, t0, t1, t2, t3, t4, t5]; try rfl) rfl ⟨?_, ?_, ?_⟩
  · refine H.out.of_tq (Tq.six (HT1.out.set 2 _) hf _ _ _ _ _ _) ((six_other _ _ _ hqf _ _ _ _ _ _).trans ?_) (by have := HM.out; omega)
    rw [heap_setCell_same w2 q 2 _ _ _ HS1.out.blk]
    have := HM.out
    simp
    omega
  · exact Tq.six (HT1.out.set 2 _) hf _ _ _ _ _ _
  · rw [← HU.out, ← HE.out]
    rfl
set_option maxRecDepth 20000 in
set_option maxHeartbeats 1000000 in
theorem sign_bang_other (w : World) (q : Nat) (s : ByteArray) (v : Value) (gs : List Gl) (i : Nat) (e : Pl) (h : Scn w q s v gs i e) (hn : gs.length ≤ 100000) (g : Gl) (hg : gs[i]? = some g) (c : Int) (hc : gfold g.code = c) (h0 : c = 33) (gn : Gl) (hg2 : gs[i + 1]? = some gn) (he2 : gn.code ≠ 61) :
    Calls Tryd.prog 52 #[.pointer (some ⟨q, 0, none⟩)] w fun r w' => Scn w' q s v gs (i + 1) e ∧ Tq w w' q ∧ r = .returned (.tuple #[tok0, .int .i64 41]) := by
  have H := hide h
  have hi : i < gs.length := (List.getElem?_eq_some_iff.1 hg).1
  have hil : (i : Int) < 100000 := by omega
  obtain ⟨ao, cap, rfl⟩ := h.gls.isSlice
  obtain ⟨b, off, rfl, hG⟩ := h.gls.glyph hg
  obtain ⟨hq, k0, k1, k2, k3, k4, k5, k6⟩ := h.cells
  obtain ⟨hb, g0, g1, g2, g3, g4, g5⟩ := hG
  have hfr := h.free 2
  have hi' : (i : Int) < (gs.length : Int) := by omega
  have KF : ∀ w, Calls Tryd.prog 58 #[.int .i64 g.code] w fun e w' => e = .returned (.int .i64 c) ∧ w' = w := fun w => by rw [← hc]; exact gfold_any w _
  subst h0
  clear h hg hc k0 k3 k4 k5 k6 g1 g2 g3 g4 g5
  unfold tok0
  go_enter Tryd.func52, Tryd.ntmps52
  go_wp2_with fail
  go_quiet ((go_at_call 58; exact Calls.quiet_of_same (KF _)))
  go_wp2_with fail
  generalize hE : Utf8.encode 33 = T
  have HE := hide ((encode_one (c := 33) (by omega)).symm.trans hE)
  have hTs : T.size ≤ 10 := by rw [← HE.out, strOfNums_size]; simp
  have hadd : ∀ w, (Op.stringOp .add T ⟨#[61]⟩).run Tryd.prog w = .ok (.string (T ++ ⟨#[61]⟩)) w := fun w => run_string_add_sum (P := Tryd.prog) w T ⟨#[61]⟩ (by show T.size + 1 ≤ _; omega)
  generalize hU : T ++ (⟨#[61]⟩ : ByteArray) = U at hadd
  have HU := hide hU
  clear hU hTs
  clear hE
  have hbq : Below w.heap.size w ((w.alloc (.cells #[.int .i64 0, .string ⟨#[]⟩, .int .i64 0, .int .i64 0, .int .i64 0, .int .i64 0] 35)).drewN nq) := by (repeat' (first | (with_reducible exact Below.refl _ _) | (with_reducible assumption) | (with_reducible refine gdrewN ?_ _) | (with_reducible refine Below.alloc ?_ ?_ _) | (with_reducible refine Below.drew ?_) | (with_reducible refine Below.setCell ?_ ?_ _) | go_size))
  have HT1 := hide ((Tq.of_below (q := q) hbq).set 2 (.int .i64 ((i : Int) + 1)))
  have HS1 := hide ((H.out.below hbq).set (by omega))
  have HT0 : Hid (Tk0B (((w.alloc (.cells #[.int .i64 0, .string ⟨#[]⟩, .int .i64 0, .int .i64 0, .int .i64 0, .int .i64 0] 35)).drewN nq).setCell ⟨q, 2, none⟩ (.int .i64 ((i : Int) + 1))) w.heap.size) := ((heap_setCell_other _ ⟨q, 2, none⟩ w.heap.size _ (by show w.heap.size ≠ q; omega)).trans (heap_alloc_new w _))
  clear hbq k1 k2 hfr g0 hb
  generalize ((w.alloc (.cells #[.int .i64 0, .string ⟨#[]⟩, .int .i64 0, .int .i64 0, .int .i64 0, .int .i64 0] 35)).drewN nq).setCell ⟨q, 2, none⟩ (.int .i64 ((i : Int) + 1)) = w1 at HT1 HS1 HT0 ⊢
  obtain ⟨m, hm⟩ : ∃ m, m = i + 1 := ⟨_, rfl⟩
  rw [← hm] at HS1 hg2
  obtain ⟨b2, off2, e2, hG2⟩ := HS1.out.gls.glyph hg2
  obtain ⟨rfl, rfl⟩ : b2 = b ∧ off2 = off := by simpa [eq_comm] using e2
  obtain ⟨hq1, k0, k1, k2, k3, k4, k5, k6⟩ := HS1.out.cells
  obtain ⟨hb, g0, g1, g2, g3, g4, g5⟩ := hG2
  have hne61 : ((gn.code : Int) != 61) = true := by simp; omega
  have hfr := HS1.out.free 2
  obtain ⟨hfl, t0, t1, t2, t3, t4, t5, f0, f1, f2, f3, f4, f5⟩ := HT0.out.cells
  have hi2 : (m : Int) < (gs.length : Int) := by have := (List.getElem?_eq_some_iff.1 hg2).1; omega
  have hne2 : ((m : Int) == (gs.length : Int)) = false := beq_eq_false_iff_ne.2 (by omega)
  have HM := hide hm
  clear e2 k0 k3 k4 k5 k6 g1 g2 g3 g4 g5 hm
  go_wp2_with fail
  go_quiet (fail)
  clear k1 k2 g0 t0 t1 t2 t3 t4 t5 f0 f1 f2 f3 f4 f5 hfr hfl hb hq1
  have hbq : Below w1.heap.size w1 (w1.drewN nq) := by (repeat' (first | (with_reducible exact Below.refl _ _) | (with_reducible assumption) | (with_reducible refine gdrewN ?_ _) | (with_reducible refine Below.alloc ?_ ?_ _) | (with_reducible refine Below.drew ?_) | (with_reducible refine Below.setCell ?_ ?_ _) | go_size))
  replace HT1 := hide (HT1.out.trans (.of_below hbq))
  replace HS1 := hide (HS1.out.below hbq)
  replace HT0 := hide (HT0.out.below hbq)
  clear hbq
  generalize w1.drewN nq = w2 at HT1 HS1 HT0 ⊢
  generalize hf : w.heap.size = f at *
  replace hf : w.heap.size ≤ f := by omega
  have hqf : q ≠ f := by omega
  obtain ⟨hq1, k0, k1, k2, k3, k4, k5, k6⟩ := HS1.out.cells
  have hfr := HS1.out.free 2
  clear k0 k1 k3 k4 k5 k6
  have hml : (m : Int) < 100000 := by omega
  obtain ⟨hfl, t0, t1, t2, t3, t4, t5, f0, f1, f2, f3, f4, f5⟩ := HT0.out.cells
  clear hne2 hg2 he2 hne61 hi hil KF
  go_wp2
  refine bodyPost_ret (v := _) (by simp [results, Tryd.results52, go_sem, t0, t1, t2, t3, t4, t5]; try rfl) rfl ⟨?_, ?_, ?_⟩
  · refine H.out.of_tq (Tq.six HT1.out hf _ _ _ _ _ _) ((six_other _ _ _ hqf _ _ _ _ _ _).trans ?_) (by have := HM.out; omega)
    rw [HS1.out.blk, HM.out]
  · exact Tq.six HT1.out hf _ _ _ _ _ _
  · rfl
set_option maxRecDepth 20000 in
set_option maxHeartbeats 1000000 in
theorem sign_bang_none (w : World) (q : Nat) (s : ByteArray) (v : Value) (gs : List Gl) (i : Nat) (e : Pl) (h : Scn w q s v gs i e) (hn : gs.length ≤ 100000) (g : Gl) (hg : gs[i]? = some g) (c : Int) (hc : gfold g.code = c) (h0 : c = 33) (hg2 : gs.length ≤ i + 1) :
    Calls Tryd.prog 52 #[.pointer (some ⟨q, 0, none⟩)] w fun r w' => Scn w' q s v gs (i + 1) e ∧ Tq w w' q ∧ r = .returned (.tuple #[tok0, .int .i64 41]) := by
  have H := hide h
  have hi : i < gs.length := (List.getElem?_eq_some_iff.1 hg).1
  have hil : (i : Int) < 100000 := by omega
  obtain ⟨ao, cap, rfl⟩ := h.gls.isSlice
  obtain ⟨b, off, rfl, hG⟩ := h.gls.glyph hg
  obtain ⟨hq, k0, k1, k2, k3, k4, k5, k6⟩ := h.cells
  obtain ⟨hb, g0, g1, g2, g3, g4, g5⟩ := hG
  have hfr := h.free 2
  have hi' : (i : Int) < (gs.length : Int) := by omega
  have KF : ∀ w, Calls Tryd.prog 58 #[.int .i64 g.code] w fun e w' => e = .returned (.int .i64 c) ∧ w' = w := fun w => by rw [← hc]; exact gfold_any w _
  subst h0
  clear h hg hc k0 k3 k4 k5 k6 g1 g2 g3 g4 g5
  unfold tok0
  go_enter Tryd.func52, Tryd.ntmps52
  go_wp2_with fail
  go_quiet ((go_at_call 58; exact Calls.quiet_of_same (KF _)))
  go_wp2_with fail
  generalize hE : Utf8.encode 33 = T
  have HE := hide ((encode_one (c := 33) (by omega)).symm.trans hE)
  have hTs : T.size ≤ 10 := by rw [← HE.out, strOfNums_size]; simp
  have hadd : ∀ w, (Op.stringOp .add T ⟨#[61]⟩).run Tryd.prog w = .ok (.string (T ++ ⟨#[61]⟩)) w := fun w => run_string_add_sum (P := Tryd.prog) w T ⟨#[61]⟩ (by show T.size + 1 ≤ _; omega)
  generalize hU : T ++ (⟨#[61]⟩ : ByteArray) = U at hadd
  have HU := hide hU
  clear hU hTs
  clear hE
  have hbq : Below w.heap.size w ((w.alloc (.cells #[.int .i64 0, .string ⟨#[]⟩, .int .i64 0, .int .i64 0, .int .i64 0, .int .i64 0] 35)).drewN nq) := by (repeat' (first | (with_reducible exact Below.refl _ _) | (with_reducible assumption) | (with_reducible refine gdrewN ?_ _) | (with_reducible refine Below.alloc ?_ ?_ _) | (with_reducible refine Below.drew ?_) | (with_reducible refine Below.setCell ?_ ?_ _) | go_size))
  have HT1 := hide ((Tq.of_below (q := q) hbq).set 2 (.int .i64 ((i : Int) + 1)))
  have HS1 := hide ((H.out.below hbq).set (by omega))
  have HT0 : Hid (Tk0B (((w.alloc (.cells #[.int .i64 0, .string ⟨#[]⟩, .int .i64 0, .int .i64 0, .int .i64 0, .int .i64 0] 35)).drewN nq).setCell ⟨q, 2, none⟩ (.int .i64 ((i : Int) + 1))) w.heap.size) := ((heap_setCell_other _ ⟨q, 2, none⟩ w.heap.size _ (by show w.heap.size ≠ q; omega)).trans (heap_alloc_new w _))
  clear hbq k1 k2 hfr g0 hb
  generalize ((w.alloc (.cells #[.int .i64 0, .string ⟨#[]⟩, .int .i64 0, .int .i64 0, .int .i64 0, .int .i64 0] 35)).drewN nq).setCell ⟨q, 2, none⟩ (.int .i64 ((i : Int) + 1)) = w1 at HT1 HS1 HT0 ⊢
  obtain ⟨m, hm⟩ : ∃ m, m = i + 1 := ⟨_, rfl⟩
  rw [← hm] at HS1
  obtain ⟨hq1, k0, k1, k2, k3, k4, k5, k6⟩ := HS1.out.cells
  obtain ⟨hfl, t0, t1, t2, t3, t4, t5, f0, f1, f2, f3, f4, f5⟩ := HT0.out.cells
  have hne2 : ((m : Int) == (gs.length : Int)) = true := by simp; omega
  have HM := hide hm
  clear k0 k3 k4 k5 k6 hm
  go_wp2_with fail
  go_quiet (fail)
  clear k1 k2 t0 t1 t2 t3 t4 t5 f0 f1 f2 f3 f4 f5 hfl hq1
  have hbq : Below w1.heap.size w1 (w1.drewN nq) := by (repeat' (first | (with_reducible exact Below.refl _ _) | (with_reducible assumption) | (with_reducible refine gdrewN ?_ _) | (with_reducible refine Below.alloc ?_ ?_ _) | (with_reducible refine Below.drew ?_) | (with_reducible refine Below.setCell ?_ ?_ _) | go_size))
  replace HT1 := hide (HT1.out.trans (.of_below hbq))
  replace HS1 := hide (HS1.out.below hbq)
  replace HT0 := hide (HT0.out.below hbq)
  clear hbq
  generalize w1.drewN nq = w2 at HT1 HS1 HT0 ⊢
  generalize hf : w.heap.size = f at *
  replace hf : w.heap.size ≤ f := by omega
  have hqf : q ≠ f := by omega
  obtain ⟨hq1, k0, k1, k2, k3, k4, k5, k6⟩ := HS1.out.cells
  have hfr := HS1.out.free 2
  clear k0 k1 k3 k4 k5 k6
  have hml : (m : Int) < 100001 := by have := HM.out; omega
  obtain ⟨hfl, t0, t1, t2, t3, t4, t5, f0, f1, f2, f3, f4, f5⟩ := HT0.out.cells
  clear hne2 hi hil KF
  go_wp2
  refine bodyPost_ret (v := _) (by simp [results, Tryd.results52, go_sem, t0, t1, t2, t3, t4, t5]; try rfl) rfl ⟨?_, ?_, ?_⟩
  · refine H.out.of_tq (Tq.six HT1.out hf _ _ _ _ _ _) ((six_other _ _ _ hqf _ _ _ _ _ _).trans ?_) (by have := HM.out; omega)
    rw [HS1.out.blk, HM.out]
  · exact Tq.six HT1.out hf _ _ _ _ _ _
  · rfl
end Lm
end Go.Proofs.YtgfglefgpgckiaaDoor

namespace Go.Proofs.YtgfglefgpgckiaaDoor
namespace Lm
open Go Go.RowKit
inductive TO where
  | bad (k : Int) : TO
  | ok (kind : Int) (text : ByteArray) (rest : List Gl) : TO
def signS (c : Int) (r : List Gl) : TO :=
  if c = 8788 then .ok 3 (strOfNums [58, 61]) r
  else if c = 8800 then .ok 3 (strOfNums [33, 61]) r
  else if c = 58 ∨ c = 33 then (match r with | [] => .bad 41 | h :: t => if h.code = 61 then .ok 3 (strOfNums [c, 61]) t else .bad 41)
  else .ok 3 (strOfNums [c]) r
def TokR (s : ByteArray) (e : Pl) (g : Gl) (r : List Gl) (o : TO) : Prop :=
  if gcls g.code = 2 then
    o = if 16 < (g :: r).length - ((g :: r).dropWhile (inC [2, 3, 4])).length then .bad 42 else .ok 1 (s.extract g.pl.b (plf ((g :: r).dropWhile (inC [2, 3, 4])) e).b) ((g :: r).dropWhile (inC [2, 3, 4]))
  else if gcls g.code = 3 then
    ∃ n ds, IsLen (dval (bytesOf (s.extract g.pl.b (plf ((g :: r).dropWhile (inC [3])) e).b))) n ∧ IsDec ds (dval (bytesOf (s.extract g.pl.b (plf ((g :: r).dropWhile (inC [3])) e).b))) ∧ o = if 32 < n then .bad 2 else .ok 2 (strOfNums ds) ((g :: r).dropWhile (inC [3]))
  else if gcls g.code = 5 then o = signS (gfold g.code) r
  else o = .bad 41
theorem tokR_name {s : ByteArray} {e : Pl} {g : Gl} {r : List Gl} (h : gcls g.code = 2) : TokR s e g r (if 16 < (g :: r).length - ((g :: r).dropWhile (inC [2, 3, 4])).length then .bad 42 else .ok 1 (s.extract g.pl.b (plf ((g :: r).dropWhile (inC [2, 3, 4])) e).b) ((g :: r).dropWhile (inC [2, 3, 4]))) := by
  unfold TokR
  rw [if_pos h]
theorem tokR_num {s : ByteArray} {e : Pl} {g : Gl} {r : List Gl} {n : Nat} {ds : List Int} (h : gcls g.code = 3) (h1 : IsLen (dval (bytesOf (s.extract g.pl.b (plf ((g :: r).dropWhile (inC [3])) e).b))) n) (h2 : IsDec ds (dval (bytesOf (s.extract g.pl.b (plf ((g :: r).dropWhile (inC [3])) e).b)))) : TokR s e g r (if 32 < n then .bad 2 else .ok 2 (strOfNums ds) ((g :: r).dropWhile (inC [3]))) := by
  unfold TokR
  rw [if_neg (by omega), if_pos h]
  exact ⟨n, ds, h1, h2, rfl⟩
theorem tokR_sign {s : ByteArray} {e : Pl} {g : Gl} {r : List Gl} (h : gcls g.code = 5) : TokR s e g r (signS (gfold g.code) r) := by
  unfold TokR
  rw [if_neg (by omega), if_neg (by omega), if_pos h]
theorem tokR_other {s : ByteArray} {e : Pl} {g : Gl} {r : List Gl} (h2 : gcls g.code ≠ 2) (h3 : gcls g.code ≠ 3) (h5 : gcls g.code ≠ 5) : TokR s e g r (.bad 41) := by
  unfold TokR
  rw [if_neg h2, if_neg h3, if_neg h5]
theorem TokR.one {s : ByteArray} {e : Pl} {g : Gl} {r : List Gl} {o o' : TO} (h : TokR s e g r o) (h' : TokR s e g r o') : o = o' := by
  unfold TokR at h h'
  by_cases c2 : gcls g.code = 2
  · rw [if_pos c2] at h h'
    rw [h, h']
  · rw [if_neg c2] at h h'
    by_cases c3 : gcls g.code = 3
    · rw [if_pos c3] at h h'
      obtain ⟨n, ds, h1, h2, h3⟩ := h
      obtain ⟨n', ds', h1', h2', h3'⟩ := h'
      rw [h3, h3', isLen_one h1 h1', isDec_one h2 h2']
    · rw [if_neg c3] at h h'
      by_cases c5 : gcls g.code = 5
      · rw [if_pos c5] at h h'
        rw [h, h']
      · rw [if_neg c5] at h h'
        rw [h, h']
structure Tk where
  kind : Int
  text : ByteArray
  pl : Pl
inductive SO where
  | bad (k : Int) (p : Pl) : SO
  | ok (l : List Tk) : SO
def SO.pre (t : Tk) : SO → SO
  | .bad k p => .bad k p
  | .ok l => .ok (t :: l)
def SO.pres (ts : List Tk) : SO → SO
  | .bad k p => .bad k p
  | .ok l => .ok (ts ++ l)
inductive ScanR (s : ByteArray) (e : Pl) : List Gl → SO → Prop
  | done (r : List Gl) (h : skp false r = []) (hb : s.size ≤ e.b) : ScanR s e r (.ok [⟨0, ⟨#[]⟩, e⟩])
  | rune (r : List Gl) (h : skp false r = []) (hb : e.b < s.size) : ScanR s e r (.bad 40 e)
  | bad (r : List Gl) (g : Gl) (t : List Gl) (k : Int) (h : skp false r = g :: t) (ht : TokR s e g t (.bad k)) : ScanR s e r (.bad k g.pl)
  | tok (r : List Gl) (g : Gl) (t : List Gl) (kind : Int) (text : ByteArray) (rest : List Gl) (o : SO) (h : skp false r = g :: t) (ht : TokR s e g t (.ok kind text rest)) (hr : ScanR s e rest o) : ScanR s e r (o.pre ⟨kind, text, g.pl⟩)
theorem ScanR.one {s : ByteArray} {e : Pl} {r : List Gl} {o o' : SO} (h : ScanR s e r o) (h' : ScanR s e r o') : o = o' := by
  induction h generalizing o' with
  | done r h hb =>
    cases h' with
    | done _ _ _ => rfl
    | rune _ _ hb' => omega
    | bad _ g t k h2 _ => rw [h] at h2; cases h2
    | tok _ g t _ _ _ _ h2 _ _ => rw [h] at h2; cases h2
  | rune r h hb =>
    cases h' with
    | done _ _ hb' => omega
    | rune _ _ _ => rfl
    | bad _ g t k h2 _ => rw [h] at h2; cases h2
    | tok _ g t _ _ _ _ h2 _ _ => rw [h] at h2; cases h2
  | bad r g t k h ht =>
    cases h' with
    | done _ h2 _ => rw [h] at h2; cases h2
    | rune _ h2 _ => rw [h] at h2; cases h2
    | bad _ g' t' k' h2 ht' =>
      rw [h] at h2
      obtain ⟨rfl, rfl⟩ := List.cons.inj h2
      have := ht.one ht'
      injection this with e1
      rw [e1]
    | tok _ g' t' _ _ _ _ h2 ht' _ =>
      rw [h] at h2
      obtain ⟨rfl, rfl⟩ := List.cons.inj h2
      have := ht.one ht'
      cases this
  | tok r g t kind text rest o h ht hr ih =>
    cases h' with
    | done _ h2 _ => rw [h] at h2; cases h2
    | rune _ h2 _ => rw [h] at h2; cases h2
    | bad _ g' t' k' h2 ht' =>
      rw [h] at h2
      obtain ⟨rfl, rfl⟩ := List.cons.inj h2
      have := ht.one ht'
      cases this
    | tok _ g' t' _ _ _ _ h2 ht' hr' =>
      rw [h] at h2
      obtain ⟨rfl, rfl⟩ := List.cons.inj h2
      have := ht.one ht'
      injection this with e1 e2 e3
      subst e1 e2 e3
      rw [ih hr']
end Lm
end Go.Proofs.YtgfglefgpgckiaaDoor

namespace Go.Proofs.YtgfglefgpgckiaaDoor
namespace Lm
open Go Go.RowKit
def TokO (w w' : World) (q : Nat) (s : ByteArray) (v : Value) (gs : List Gl) (i : Nat) (e : Pl) (r : Ending) : TO → Prop
  | .bad k => k ≠ 0 ∧ r = .returned (.tuple #[tok0, .int .i64 k]) ∧ Tq w w' q
  | .ok kind text rest => r = .returned (.tuple #[.agg #[.int .i64 kind, .string text, .int .i64 0, .int .i64 0, .int .i64 0, .int .i64 0], .int .i64 0]) ∧ Tq w w' q ∧ ∃ j, i < j ∧ gs.drop j = rest ∧ Scn w' q s v gs j e
structure TokV (w w' : World) (q : Nat) (s : ByteArray) (v : Value) (gs : List Gl) (i : Nat) (e : Pl) (kd : Int) (tx : ByteArray) (k : Int) (o : TO) : Prop where
  out : TokO w w' q s v gs i e (.returned (.tuple #[.agg #[.int .i64 kd, .string tx, .int .i64 0, .int .i64 0, .int .i64 0, .int .i64 0], .int .i64 k])) o
theorem TokO.v {w w' : World} {q : Nat} {s : ByteArray} {v : Value} {gs : List Gl} {i : Nat} {e : Pl} {r : Ending} {o : TO} (h : TokO w w' q s v gs i e r o) : ∃ (kd : Int) (tx : ByteArray) (k : Int), r = .returned (.tuple #[.agg #[.int .i64 kd, .string tx, .int .i64 0, .int .i64 0, .int .i64 0, .int .i64 0], .int .i64 k]) ∧ TokV w w' q s v gs i e kd tx k o := by
  cases o with
  | bad k => exact ⟨_, _, _, h.2.1, ⟨h.1, rfl, h.2.2⟩⟩
  | ok kind text rest => exact ⟨_, _, _, h.1, ⟨rfl, h.2⟩⟩
theorem TokV.six {w w1 w' : World} {q f : Nat} {s : ByteArray} {v : Value} {gs : List Gl} {i : Nat} {e : Pl} {kd : Int} {tx : ByteArray} {k : Int} {o : TO} (h : TokV w1 w' q s v gs i e kd tx k o) (h0 : Scn w q s v gs i e) (hb : Below w.heap.size w w1) (hf : w.heap.size ≤ f) (hqf : q ≠ f) (u0 u1 u2 u3 u4 u5 : Value) :
    TokO w ((((((w'.setCell ⟨f, 0, none⟩ u0).setCell ⟨f, 1, none⟩ u1).setCell ⟨f, 2, none⟩ u2).setCell ⟨f, 3, none⟩ u3).setCell ⟨f, 4, none⟩ u4).setCell ⟨f, 5, none⟩ u5) q s v gs i e (.returned (.tuple #[.agg #[.int .i64 kd, .string tx, .int .i64 0, .int .i64 0, .int .i64 0, .int .i64 0], .int .i64 k])) o := by
  obtain ⟨h⟩ := h
  cases o with
  | bad c => exact ⟨h.1, h.2.1, ((Tq.of_below hb).trans h.2.2).six hf _ _ _ _ _ _⟩
  | ok kind text rest =>
    obtain ⟨h1, h2, j, h3, h4, h5⟩ := h
    exact ⟨h1, ((Tq.of_below hb).trans h2).six hf _ _ _ _ _ _, j, h3, h4, h0.of_tq (((Tq.of_below hb).trans h2).six hf _ _ _ _ _ _) ((six_other _ _ _ hqf _ _ _ _ _ _).trans h5.blk) h5.le⟩
theorem dropWhile_len {α : Type} (p : α → Bool) (l : List α) : (l.dropWhile p).length ≤ l.length := by
  induction l with
  | nil => simp
  | cons a l ih =>
    by_cases h : p a = true
    · rw [List.dropWhile_cons_of_pos h]; simp; omega
    · rw [List.dropWhile_cons_of_neg h]; simp
theorem dropWhile_lt {α : Type} {p : α → Bool} {a : α} {l : List α} (h : p a = true) : ((a :: l).dropWhile p).length < (a :: l).length := by
  rw [List.dropWhile_cons_of_pos h]
  have := dropWhile_len p l
  simp
  omega
theorem drop_lt {gs : List Gl} {i j : Nat} (hi : i < gs.length) (h : (gs.drop j).length < (gs.drop i).length) : i < j := by
  simp at h
  omega
theorem name_t (w : World) (q : Nat) (s : ByteArray) (v : Value) (gs : List Gl) (i : Nat) (e : Pl) (h : Scn w q s v gs i e) (hn : gs.length ≤ 100000) (hQ : Snd s pl0 gs e) (hs : s.size ≤ 4096) (g : Gl) (hd : gs.drop i = g :: gs.drop (i + 1)) (hc : gcls g.code = 2) :
    Calls Tryd.prog 50 #[.pointer (some ⟨q, 0, none⟩)] w fun r w' => ∃ o, TokR s e g (gs.drop (i + 1)) o ∧ TokO w w' q s v gs i e r o := by
  refine (name_any w q s v gs i e h hn hQ (by omega)).mono ?_
  rintro r w' ⟨j, hij, hdj, hS, hT, hr⟩
  have hlt : i < gs.length := by
    apply Classical.byContradiction
    intro hh
    rw [List.drop_eq_nil_of_le (by omega)] at hd
    cases hd
  have hjl := hS.le
  have hl : (g :: gs.drop (i + 1)).length - ((g :: gs.drop (i + 1)).dropWhile (inC [2, 3, 4])).length = j - i := by
    rw [← hd, ← hdj]
    simp
    omega
  have hj : i < j := by
    refine drop_lt hlt ?_
    rw [hdj, hd]
    exact dropWhile_lt (by simp [inC, hc])
  refine ⟨_, tokR_name hc, ?_⟩
  rw [hl]
  rw [hd] at hdj
  rcases hr with ⟨h1, rfl⟩ | ⟨h1, rfl⟩
  · rw [if_pos h1]; exact ⟨by omega, rfl, hT⟩
  · rw [if_neg (by omega), hd, hdj]
    exact ⟨rfl, hT, j, hj, hdj, hS⟩
theorem number_t (w : World) (q : Nat) (s : ByteArray) (v : Value) (gs : List Gl) (i : Nat) (e : Pl) (h : Scn w q s v gs i e) (hn : gs.length ≤ 100000) (hQ : Snd s pl0 gs e) (hs : s.size ≤ 4096) (g : Gl) (hd : gs.drop i = g :: gs.drop (i + 1)) (hc : gcls g.code = 3) :
    Calls Tryd.prog 51 #[.pointer (some ⟨q, 0, none⟩)] w fun r w' => ∃ o, TokR s e g (gs.drop (i + 1)) o ∧ TokO w w' q s v gs i e r o := by
  have hlt : i < gs.length := by
    apply Classical.byContradiction
    intro hh
    rw [List.drop_eq_nil_of_le (by omega)] at hd
    cases hd
  have hin : inC [3] g = true := by simp [inC, hc]
  refine (number_any w q s v gs i e h hn hQ hs ?_).mono ?_
  · have hD := hQ.drop pl0_ok (Nat.zero_le _) i h.le
    rw [hd, List.dropWhile_cons_of_pos hin]
    obtain ⟨m, hm, hml⟩ : ∃ m, (gs.drop (i + 1)).dropWhile (inC [3]) = (gs.drop i).drop m ∧ 1 ≤ m ∧ m ≤ (gs.drop i).length := by
      refine ⟨(gs.drop i).length - ((gs.drop (i + 1)).dropWhile (inC [3])).length, ?_, ?_, ?_⟩
      · have key : ∀ (l : List Gl), l.dropWhile (inC [3]) = l.drop (l.length - (l.dropWhile (inC [3])).length) := by
          intro l
          induction l with
          | nil => rfl
          | cons a l ih =>
            by_cases ha : inC [3] a = true
            · rw [List.dropWhile_cons_of_pos ha]
              have := dropWhile_len (inC [3]) l
              rw [show (a :: l).length - (l.dropWhile (inC [3])).length = (l.length - (l.dropWhile (inC [3])).length) + 1 from by simp; omega, List.drop_succ_cons]
              exact ih
            · rw [List.dropWhile_cons_of_neg ha]; simp
        have := key (gs.drop i)
        rw [hd, List.dropWhile_cons_of_pos hin] at this
        rw [hd]
        exact this
      · have := dropWhile_len (inC [3]) (gs.drop (i + 1)); simp at this ⊢; omega
      · omega
    have h2 := hD.1.drop hD.2.1 hD.2.2.2.1 m hml.2
    rw [hm]
    rw [hd] at h2 ⊢
    have h3 := h2.2.2.1
    omega
  rintro r w' ⟨j, hij, hdj, hS, hT, n, ds, hn1, hds, hr⟩
  have hj : i < j := by
    refine drop_lt hlt ?_
    rw [hdj, hd]
    exact dropWhile_lt hin
  rw [hd] at hdj hn1 hds
  rw [hdj] at hn1 hds
  refine ⟨_, tokR_num hc hn1 hds, ?_⟩
  rcases hr with ⟨h1, rfl⟩ | ⟨h1, rfl⟩
  · rw [if_pos h1]; exact ⟨by omega, rfl, hT⟩
  · rw [if_neg (by omega)]
    exact ⟨rfl, hT, j, hj, hdj, hS⟩
theorem fold_of {g : Gl} (h : gcls g.code = 5) : gsign (gfold g.code) := by
  apply Classical.byContradiction
  intro hn
  unfold gcls at h
  repeat' split at h
  all_goals first | contradiction | omega
theorem sign_t (w : World) (q : Nat) (s : ByteArray) (v : Value) (gs : List Gl) (i : Nat) (e : Pl) (h : Scn w q s v gs i e) (hn : gs.length ≤ 100000) (g : Gl) (hg : gs[i]? = some g) (hc : gcls g.code = 5) :
    Calls Tryd.prog 52 #[.pointer (some ⟨q, 0, none⟩)] w fun r w' => ∃ o, TokR s e g (gs.drop (i + 1)) o ∧ TokO w w' q s v gs i e r o := by
  have hs := fold_of hc
  suffices H : Calls Tryd.prog 52 #[.pointer (some ⟨q, 0, none⟩)] w fun r w' => TokO w w' q s v gs i e r (signS (gfold g.code) (gs.drop (i + 1))) from H.mono (fun r w' h => ⟨_, tokR_sign hc, h⟩)
  generalize hcc : gfold g.code = c at hs ⊢
  unfold signS
  by_cases c1 : c = 8788
  · rw [if_pos c1]
    refine (sign_becomes w q s v gs i e h hn g hg c hcc c1).mono ?_
    rintro r w' ⟨hS, hT, rfl⟩
    exact ⟨rfl, hT, i + 1, by omega, rfl, hS⟩
  · rw [if_neg c1]
    by_cases c2 : c = 8800
    · rw [if_pos c2]
      refine (sign_unlike w q s v gs i e h hn g hg c hcc c2).mono ?_
      rintro r w' ⟨hS, hT, rfl⟩
      exact ⟨rfl, hT, i + 1, by omega, rfl, hS⟩
    · rw [if_neg c2]
      by_cases c3 : c = 58 ∨ c = 33
      · rw [if_pos c3]
        by_cases hl : i + 1 < gs.length
        · rw [List.drop_eq_getElem_cons hl]
          simp only
          have hg2 : gs[i + 1]? = some (gs[i + 1]'hl) := List.getElem?_eq_getElem hl
          by_cases h61 : (gs[i + 1]'hl).code = 61
          · rw [if_pos h61]
            rcases c3 with c3 | c3
            · rw [c3] at hcc ⊢
              refine (sign_colon w q s v gs i e h hn g hg 58 hcc rfl _ hg2 h61).mono ?_
              rintro r w' ⟨hS, hT, rfl⟩
              exact ⟨rfl, hT, i + 2, by omega, rfl, hS⟩
            · rw [c3] at hcc ⊢
              refine (sign_bang w q s v gs i e h hn g hg 33 hcc rfl _ hg2 h61).mono ?_
              rintro r w' ⟨hS, hT, rfl⟩
              exact ⟨rfl, hT, i + 2, by omega, rfl, hS⟩
          · rw [if_neg h61]
            rcases c3 with c3 | c3
            · refine (sign_colon_other w q s v gs i e h hn g hg c hcc c3 _ hg2 h61).mono ?_
              rintro r w' ⟨hS, hT, rfl⟩
              exact ⟨by omega, rfl, hT⟩
            · refine (sign_bang_other w q s v gs i e h hn g hg c hcc c3 _ hg2 h61).mono ?_
              rintro r w' ⟨hS, hT, rfl⟩
              exact ⟨by omega, rfl, hT⟩
        · rw [List.drop_eq_nil_of_le (by omega)]
          simp only
          rcases c3 with c3 | c3
          · refine (sign_colon_none w q s v gs i e h hn g hg c hcc c3 (by omega)).mono ?_
            rintro r w' ⟨hS, hT, rfl⟩
            exact ⟨by omega, rfl, hT⟩
          · refine (sign_bang_none w q s v gs i e h hn g hg c hcc c3 (by omega)).mono ?_
            rintro r w' ⟨hS, hT, rfl⟩
            exact ⟨by omega, rfl, hT⟩
      · rw [if_neg c3]
        refine (sign_one w q s v gs i e h hn g hg c hcc ?_ (by omega) (by omega)).mono ?_
        · unfold gsign at hs; omega
        rintro r w' ⟨hS, hT, rfl⟩
        exact ⟨rfl, hT, i + 1, by omega, rfl, hS⟩
end Lm
end Go.Proofs.YtgfglefgpgckiaaDoor

namespace Go.Proofs.YtgfglefgpgckiaaDoor
namespace Lm
open Go Go.RowKit
theorem TokV.tq {w w' : World} {q : Nat} {s : ByteArray} {v : Value} {gs : List Gl} {i : Nat} {e : Pl} {kd : Int} {tx : ByteArray} {k : Int} {o : TO} (h : TokV w w' q s v gs i e kd tx k o) : Tq w w' q := by
  obtain ⟨h⟩ := h
  cases o with
  | bad c => exact h.2.2
  | ok kind text rest => exact h.2.1
set_option maxRecDepth 20000 in
set_option maxHeartbeats 1000000 in
theorem token_any (w : World) (q : Nat) (s : ByteArray) (v : Value) (gs : List Gl) (i : Nat) (e : Pl) (h : Scn w q s v gs i e) (hn : gs.length ≤ 100000) (hQ : Snd s pl0 gs e) (hs : s.size ≤ 4096) (g : Gl) (hg : gs[i]? = some g) :
    Calls Tryd.prog 30 #[.pointer (some ⟨q, 0, none⟩)] w fun r w' => ∃ o, TokR s e g (gs.drop (i + 1)) o ∧ TokO w w' q s v gs i e r o := by
  have H := hide h
  have hi : i < gs.length := (List.getElem?_eq_some_iff.1 hg).1
  have hd : gs.drop i = g :: gs.drop (i + 1) := by
    rw [List.drop_eq_getElem_cons hi]
    congr 1
    rw [List.getElem?_eq_getElem hi] at hg
    exact Option.some.inj hg
  have HD := hide hd
  obtain ⟨ao, cap, rfl⟩ := h.gls.isSlice
  obtain ⟨b, off, rfl, hG⟩ := h.gls.glyph hg
  obtain ⟨hq, k0, k1, k2, k3, k4, k5, k6⟩ := h.cells
  obtain ⟨hb, g0, g1, g2, g3, g4, g5⟩ := hG
  have hi' : (i : Int) < (gs.length : Int) := by omega
  have HGI := hide hg
  clear h k0 k3 k4 k5 k6 g0 g2 g3 g4 g5 hd hg
  go_enter Tryd.func30, Tryd.ntmps30
  go_wp2_with fail
  go_quiet (fail)
  have hbq : Below w.heap.size w ((w.alloc (.cells #[.int .i64 0, .string ⟨#[]⟩, .int .i64 0, .int .i64 0, .int .i64 0, .int .i64 0] 35)).drewN nq) := by (repeat' (first | (with_reducible exact Below.refl _ _) | (with_reducible assumption) | (with_reducible refine gdrewN ?_ _) | (with_reducible refine Below.alloc ?_ ?_ _) | (with_reducible refine Below.drew ?_) | (with_reducible refine Below.setCell ?_ ?_ _) | go_size))
  have HB := hide hbq
  have HS1 := hide (H.out.below hbq)
  have HT1 : Hid (Tk0B ((w.alloc (.cells #[.int .i64 0, .string ⟨#[]⟩, .int .i64 0, .int .i64 0, .int .i64 0, .int .i64 0] 35)).drewN nq) w.heap.size) := heap_alloc_new w _
  clear hbq k1 k2 g1 hb hi'
  generalize (w.alloc (.cells #[.int .i64 0, .string ⟨#[]⟩, .int .i64 0, .int .i64 0, .int .i64 0, .int .i64 0] 35)).drewN nq = w1 at HB HS1 HT1 ⊢
  generalize hf : w.heap.size = f at *
  have hqf : q ≠ f := by omega
  have hfq : f ≠ q := by omega
  replace HB : Hid (Below w.heap.size w w1) := by rw [hf]; exact HB
  replace hf : w.heap.size ≤ f := by omega
  clear hq
  by_cases hc2 : gcls g.code = 2
  · have n2 : (gcls g.code == 2) = true := by rw [hc2]; rfl
    go_wp2_with fail
    refine (name_t _ q s _ gs i e HS1.out hn hQ hs g HD.out hc2).mono ?_
    rintro r w2 ⟨o, ho, hO⟩
    obtain ⟨kd, tx, k, rfl, hV⟩ := hO.v
    have HV := hide hV
    have HR := hide ho
    have HT0 := hide (HT1.out.tq (hV.tq) hfq)
    clear hO hV ho
    obtain ⟨hfl, t0, t1, t2, t3, t4, t5, f0, f1, f2, f3, f4, f5⟩ := HT0.out.cells
    go_wp2
    refine bodyPost_ret (v := _) (by simp [results, Tryd.results30, go_sem, t0, t1, t2, t3, t4, t5]; try rfl) rfl ⟨o, HR.out, ?_⟩
    exact HV.out.six H.out HB.out hf hqf _ _ _ _ _ _
  by_cases hc3 : gcls g.code = 3
  · have n2 : (gcls g.code == 2) = false := beq_eq_false_iff_ne.2 hc2
    have n3 : (gcls g.code == 3) = true := by rw [hc3]; rfl
    go_wp2_with fail
    refine (number_t _ q s _ gs i e HS1.out hn hQ hs g HD.out hc3).mono ?_
    rintro r w2 ⟨o, ho, hO⟩
    obtain ⟨kd, tx, k, rfl, hV⟩ := hO.v
    have HV := hide hV
    have HR := hide ho
    have HT0 := hide (HT1.out.tq (hV.tq) hfq)
    clear hO hV ho
    obtain ⟨hfl, t0, t1, t2, t3, t4, t5, f0, f1, f2, f3, f4, f5⟩ := HT0.out.cells
    go_wp2
    refine bodyPost_ret (v := _) (by simp [results, Tryd.results30, go_sem, t0, t1, t2, t3, t4, t5]; try rfl) rfl ⟨o, HR.out, ?_⟩
    exact HV.out.six H.out HB.out hf hqf _ _ _ _ _ _
  by_cases hc5 : gcls g.code = 5
  · have n2 : (gcls g.code == 2) = false := beq_eq_false_iff_ne.2 hc2
    have n3 : (gcls g.code == 3) = false := beq_eq_false_iff_ne.2 hc3
    have n5 : (gcls g.code == 5) = true := by rw [hc5]; rfl
    go_wp2_with fail
    refine (sign_t _ q s _ gs i e HS1.out hn g HGI.out hc5).mono ?_
    rintro r w2 ⟨o, ho, hO⟩
    obtain ⟨kd, tx, k, rfl, hV⟩ := hO.v
    have HV := hide hV
    have HR := hide ho
    have HT0 := hide (HT1.out.tq (hV.tq) hfq)
    clear hO hV ho
    obtain ⟨hfl, t0, t1, t2, t3, t4, t5, f0, f1, f2, f3, f4, f5⟩ := HT0.out.cells
    go_wp2
    refine bodyPost_ret (v := _) (by simp [results, Tryd.results30, go_sem, t0, t1, t2, t3, t4, t5]; try rfl) rfl ⟨o, HR.out, ?_⟩
    exact HV.out.six H.out HB.out hf hqf _ _ _ _ _ _
  · have n2 : (gcls g.code == 2) = false := beq_eq_false_iff_ne.2 hc2
    have n3 : (gcls g.code == 3) = false := beq_eq_false_iff_ne.2 hc3
    have n5 : (gcls g.code == 5) = false := beq_eq_false_iff_ne.2 hc5
    obtain ⟨hfl, t0, t1, t2, t3, t4, t5, f0, f1, f2, f3, f4, f5⟩ := HT1.out.cells
    go_wp2
    refine bodyPost_ret (v := _) (by simp [results, Tryd.results30, go_sem, t0, t1, t2, t3, t4, t5]; try rfl) rfl ⟨_, tokR_other hc2 hc3 hc5, by omega, rfl, (Tq.of_below HB.out).six hf _ _ _ _ _ _⟩
end Lm
end Go.Proofs.YtgfglefgpgckiaaDoor

namespace Go.Proofs.YtgfglefgpgckiaaDoor
namespace Lm
open Go Go.RowKit
def tflat : List Tk → List Value
  | [] => []
  | t :: ts => .int .i64 t.kind :: .string t.text :: .int .i64 t.pl.b :: .int .i64 t.pl.g :: .int .i64 t.pl.l :: .int .i64 t.pl.c :: tflat ts
theorem tflat_append (es fs : List Tk) : tflat (es ++ fs) = tflat es ++ tflat fs := by
  induction es with
  | nil => rfl
  | cons e es ih => simp [tflat, ih]
def plz : Pl := ⟨0, 0, 0, 0⟩
theorem infoT : (Tryd.prog.info? 35).map (fun i => (i.zero, i.size, i.bytes)) = some (some (.agg #[.int .i64 0, .string ⟨#[]⟩, .int .i64 0, .int .i64 0, .int .i64 0, .int .i64 0]), 6, 56) := by kernel_rfl
structure ScS (w wr : World) (q f B : Nat) (s : ByteArray) (v : Value) (gs : List Gl) (i : Nat) (e : Pl) (ts : List Tk) (tv : Value) : Prop where
  scn : Scn wr q s v gs i e
  own : wr.ownsRow B 35 6 tv ts.length (tflat ts)
  zer : PlB wr f plz
  bel : Below w.heap.size w wr
  siz : B ≤ wr.heap.size
  fw : w.heap.size ≤ f
  qw : w.heap.size ≤ q
  fq : f ≠ q
  fB : f < B
  qB : q < B
  vB : ∀ b off n c, v = .slice (some ⟨b, off, none⟩) n c → b < B
theorem ScS.below {w wr w' : World} {q f B : Nat} {s : ByteArray} {v : Value} {gs : List Gl} {i : Nat} {e : Pl} {ts : List Tk} {tv : Value} (h : ScS w wr q f B s v gs i e ts tv) (hb : Below wr.heap.size wr w') : ScS w w' q f B s v gs i e ts tv :=
  ⟨h.scn.below hb, own_below h.own hb, h.zer.below hb, h.bel.trans (hb.mono h.bel.size), Nat.le_trans h.siz hb.size, h.fw, h.qw, h.fq, h.fB, h.qB, h.vB⟩
theorem ScS.tq {w wr w' : World} {q f B : Nat} {s : ByteArray} {v : Value} {gs : List Gl} {i j : Nat} {e : Pl} {ts : List Tk} {tv : Value} (h : ScS w wr q f B s v gs i e ts tv) (ht : Tq wr w' q) (hs : Scn w' q s v gs j e) : ScS w w' q f B s v gs j e ts tv :=
  ⟨hs, own_keep h.own fun k _ hk he => (ht.other k (lt_of_heap he) (by have := h.qB; omega)).trans he, h.zer.tq ht h.fq, below_tq h.bel ht h.qw (Nat.le_refl _), Nat.le_trans h.siz ht.size, h.fw, h.qw, h.fq, h.fB, h.qB, h.vB⟩
theorem ScS.more {w wr w1 : World} {q f B : Nat} {s : ByteArray} {v : Value} {gs : List Gl} {i : Nat} {e : Pl} {ts : List Tk} {tv tv' : Value} {t : Tk} (h : ScS w wr q f B s v gs i e ts tv) (hg : wr.grownBy w1 tv.ownBlock) (hown : w1.ownsRow B 35 6 tv' (ts ++ [t]).length (tflat (ts ++ [t]))) : ScS w w1 q f B s v gs i e (ts ++ [t]) tv' := by
  have hrow : ∀ k, k < B → some k ≠ tv.ownBlock := by
    intro k hk
    obtain ⟨hl, ⟨rfl, _⟩ | ⟨b, cap, cur, rfl, hb, _⟩⟩ := h.own
    · simp [Value.ownBlock]
    · simp only [Value.ownBlock, ne_eq, Option.some.injEq]
      omega
  have hz := h.siz
  have hB : ∀ k, k < B → w1.heap[k]? = wr.heap[k]? := fun k hk => hg.block k (by omega) (hrow k hk)
  have hGs : Gs w1 v gs := by
    obtain ⟨ao, cap, rfl, h1, h2, h3, h4⟩ := h.scn.gls
    refine ⟨ao, cap, rfl, h1, h2, h3, ?_⟩
    rcases h4 with h4 | ⟨b, off, rfl, hl, hc⟩
    · exact .inl h4
    · refine .inr ⟨b, off, rfl, Nat.lt_of_lt_of_le hl hg.size, fun j u hu => ?_⟩
      rw [World.cell?_of_block (w := wr) (hB b (h.vB _ _ _ _ rfl))]
      exact hc j u hu
  exact ⟨⟨(hB q h.qB).trans h.scn.blk, hGs, h.scn.le, h.scn.apt⟩, hown, (hB f h.fB).trans h.zer, ⟨hg.os.trans h.bel.os, hg.tape.trans h.bel.tape, hg.output.trans h.bel.output, Nat.le_trans h.bel.size hg.size, fun k hk => (hB k (by have := h.fw; have := h.fB; omega)).trans (h.bel.block k hk)⟩, Nat.le_trans h.siz hg.size, h.fw, h.qw, h.fq, h.fB, h.qB, h.vB⟩
def ScanO (w w' : World) (r : Ending) : SO → Prop
  | .bad k p => r = .returned (.tuple #[.slice none 0 0, .int .i64 k, p.v])
  | .ok l => ∃ v, r = .returned (.tuple #[v, .int .i64 0, plz.v]) ∧ w'.ownsRow w.heap.size 35 6 v l.length (tflat l)
theorem pres_nil (o : SO) : o.pres [] = o := by cases o <;> rfl
theorem pres_pre (ts : List Tk) (t : Tk) (o : SO) : (o.pre t).pres ts = o.pres (ts ++ [t]) := by
  cases o with
  | bad k p => rfl
  | ok l => simp [SO.pre, SO.pres]
end Lm
end Go.Proofs.YtgfglefgpgckiaaDoor

namespace Go.Proofs.YtgfglefgpgckiaaDoor
namespace Lm
open Go Go.RowKit
set_option maxRecDepth 20000 in
set_option maxHeartbeats 1000000 in
theorem scan_long (w : World) (s : ByteArray) (hs : 4096 < s.size) :
    Calls Tryd.prog 11 #[.string s] w fun r w' => Below w.heap.size w w' ∧ r = .returned (.tuple #[.slice none 0 0, .int .i64 2, plz.v]) := by
  have hs' : (4096 : Int) < (s.size : Int) := by omega
  go_enter Tryd.func11, Tryd.ntmps11
  go_wp2
  refine bodyPost_ret (v := _) (by simp [results, Tryd.results11, go_sem]; try rfl) rfl ⟨?_, rfl⟩
  (repeat' (first | (with_reducible exact Below.refl _ _) | (with_reducible assumption) | (with_reducible refine gdrewN ?_ _) | (with_reducible refine Below.alloc ?_ ?_ _) | (with_reducible refine Below.drew ?_) | (with_reducible refine Below.setCell ?_ ?_ _) | go_size))
theorem plB_fill {w : World} {f : Nat} {p p' : Pl} (h : PlB w f p) : PlB ((((w.setCell ⟨f, 0, none⟩ (.int .i64 p'.b)).setCell ⟨f, 1, none⟩ (.int .i64 p'.g)).setCell ⟨f, 2, none⟩ (.int .i64 p'.l)).setCell ⟨f, 3, none⟩ (.int .i64 p'.c)) f p' := by
  unfold PlB
  rw [heap_setCell_same _ _ 3 _ _ _ (heap_setCell_same _ _ 2 _ _ _ (heap_setCell_same _ _ 1 _ _ _ (heap_setCell_same _ _ 0 _ _ _ h)))]
  simp
theorem fill_below {B f : Nat} {w w' : World} (h : Below B w w') (hf : B ≤ f) (u0 u1 u2 u3 : Value) : Below B w ((((w'.setCell ⟨f, 0, none⟩ u0).setCell ⟨f, 1, none⟩ u1).setCell ⟨f, 2, none⟩ u2).setCell ⟨f, 3, none⟩ u3) :=
  (((h.setCell hf _).setCell hf _).setCell hf _).setCell hf _
theorem scs_first {w w1 : World} {s : ByteArray} {ao : Option Addr} {cap : Nat} {gs : List Gl} {e : Pl} (HOWN : w1.ownsRow (w.heap.size + 2 + 2) 46 6 (.slice ao gs.length cap) gs.length (gflat gs)) (HQB : w1.heap[w.heap.size + 1]? = some (.cells #[.string s, .slice none 0 0, .int .i64 0, .int .i64 0, .int .i64 0, .int .i64 0, .int .i64 0] 63 (0, 0))) (HFB : PlB w1 w.heap.size plz) (HB1 : Below w.heap.size w w1) (hs1 : w.heap.size + 2 ≤ w1.heap.size) :
    ScS w (((((w1.setCell ⟨w.heap.size + 1, 1, none⟩ (.slice ao gs.length cap)).setCell ⟨w.heap.size + 1, 3, none⟩ (.int .i64 e.b)).setCell ⟨w.heap.size + 1, 4, none⟩ (.int .i64 e.g)).setCell ⟨w.heap.size + 1, 5, none⟩ (.int .i64 e.l)).setCell ⟨w.heap.size + 1, 6, none⟩ (.int .i64 e.c)) (w.heap.size + 1) w.heap.size w1.heap.size s (.slice ao gs.length cap) gs 0 e [] (.slice none 0 0) := by
  have ht : Tq w1 (((((w1.setCell ⟨w.heap.size + 1, 1, none⟩ (.slice ao gs.length cap)).setCell ⟨w.heap.size + 1, 3, none⟩ (.int .i64 e.b)).setCell ⟨w.heap.size + 1, 4, none⟩ (.int .i64 e.g)).setCell ⟨w.heap.size + 1, 5, none⟩ (.int .i64 e.l)).setCell ⟨w.heap.size + 1, 6, none⟩ (.int .i64 e.c)) (w.heap.size + 1) := (Tq.refl _ _).set 1 _ |>.set 3 _ |>.set 4 _ |>.set 5 _ |>.set 6 _
  have hap : ∀ b off n c, Value.slice ao gs.length cap = .slice (some ⟨b, off, none⟩) n c → b ≠ w.heap.size + 1 ∧ b < w1.heap.size := by
    intro b off n c hv
    obtain ⟨hl, ⟨h1, _⟩ | ⟨g, cap', cur, h1, hb, hh, _⟩⟩ := HOWN
    · rw [h1] at hv; cases hv
    · rw [h1] at hv
      simp only [Value.slice.injEq, Option.some.injEq, Addr.mk.injEq] at hv
      have := lt_of_heap hh
      omega
  refine ⟨⟨?_, Gs.tq (Ce.own HOWN) ht (fun b off n c hv => (hap b off n c hv).1), Nat.zero_le _, fun b off n c hv => (hap b off n c hv).1⟩, World.ownsRow_nil _ _ _ _, HFB.tq ht (by omega), below_tq HB1 ht (by omega) (Nat.le_refl _), ht.size, Nat.le_refl _, by omega, by omega, by omega, by omega, fun b off n c hv => (hap b off n c hv).2⟩
  rw [heap_setCell_same _ _ 6 _ _ _ (heap_setCell_same _ _ 5 _ _ _ (heap_setCell_same _ _ 4 _ _ _ (heap_setCell_same _ _ 3 _ _ _ (heap_setCell_same _ _ 1 _ _ _ HQB))))]
  simp
set_option maxRecDepth 20000 in
set_option maxHeartbeats 4000000 in
theorem scan_short (w : World) (s : ByteArray) (hT : Tabs w) (hs : s.size ≤ 4096) :
    Calls Tryd.prog 11 #[.string s] w fun r w' => Below w.heap.size w w' ∧ ∃ gs e o, Snd s pl0 gs e ∧ ScanR s e gs o ∧ ScanO w w' r o := by
  have hs' : decide ((4096 : Int) < (s.size : Int)) = false := by simp; omega
  go_enter Tryd.func11, Tryd.ntmps11
  go_wp2_with fail
  refine (sound_any _ _ (hT.below (by (repeat' (first | (with_reducible exact Below.refl _ _) | (with_reducible assumption) | (with_reducible refine gdrewN ?_ _) | (with_reducible refine Below.alloc ?_ ?_ _) | (with_reducible refine Below.drew ?_) | (with_reducible refine Below.setCell ?_ ?_ _) | go_size)))) hs).mono ?_
  rintro r w1 ⟨gs, e, v, hQ, rfl, hown, hb1⟩
  obtain ⟨ao, cap, rfl⟩ := own_slice hown
  have hsz0 : ((w.alloc (.cells #[.int .i64 0, .int .i64 0, .int .i64 0, .int .i64 0] 25)).alloc (.cells #[.string s, .slice none 0 0, .int .i64 0, .int .i64 0, .int .i64 0, .int .i64 0, .int .i64 0] 63)).heap.size = w.heap.size + 2 := by simp [World.size_alloc]
  have hbq := hb1
  rw [hsz0] at hown hbq
  have hqb : w1.heap[w.heap.size + 1]? = some (.cells #[.string s, .slice none 0 0, .int .i64 0, .int .i64 0, .int .i64 0, .int .i64 0, .int .i64 0] 63 (0, 0)) := by
    rw [hbq.block (w.heap.size + 1) (by omega)]
    have := heap_alloc_new (w.alloc (.cells #[.int .i64 0, .int .i64 0, .int .i64 0, .int .i64 0] 25)) (.cells #[.string s, .slice none 0 0, .int .i64 0, .int .i64 0, .int .i64 0, .int .i64 0, .int .i64 0] 63)
    rwa [World.size_alloc] at this
  have hfb : PlB w1 w.heap.size plz := by
    unfold PlB
    rw [hbq.block w.heap.size (by omega)]
    exact (((Below.refl _ _).alloc (Nat.le_refl _) (.cells #[.string s, .slice none 0 0, .int .i64 0, .int .i64 0, .int .i64 0, .int .i64 0, .int .i64 0] 63)).block w.heap.size (by simp [World.size_alloc])).trans (heap_alloc_new w (.cells #[.int .i64 0, .int .i64 0, .int .i64 0, .int .i64 0] 25))
  have hb1w : Below w.heap.size w w1 := (below_two w _ _).trans (hbq.mono (by omega))
  have hs1 : w.heap.size + 2 ≤ w1.heap.size := by have := hbq.size; rwa [hsz0] at this
  have HOWN := hide hown
  have HQB := hide hqb
  have HFB := hide hfb
  have HB1 := hide hb1w
  have HQ := hide hQ
  have k1 : w1.cell? ⟨w.heap.size + 1, 1, none⟩ = some (.slice none 0 0) := by rw [cell_of_row w1 _ 1 _ _ _ hqb]; rfl
  have k3 : w1.cell? ⟨w.heap.size + 1, 3, none⟩ = some (.int .i64 0) := by rw [cell_of_row w1 _ 3 _ _ _ hqb]; rfl
  have k4 : w1.cell? ⟨w.heap.size + 1, 4, none⟩ = some (.int .i64 0) := by rw [cell_of_row w1 _ 4 _ _ _ hqb]; rfl
  have k5 : w1.cell? ⟨w.heap.size + 1, 5, none⟩ = some (.int .i64 0) := by rw [cell_of_row w1 _ 5 _ _ _ hqb]; rfl
  have k6 : w1.cell? ⟨w.heap.size + 1, 6, none⟩ = some (.int .i64 0) := by rw [cell_of_row w1 _ 6 _ _ _ hqb]; rfl
  have f1 := frozen_of_row w1 (w.heap.size + 1) 1 _ _ hqb
  have f3 := frozen_of_row w1 (w.heap.size + 1) 3 _ _ hqb
  have f4 := frozen_of_row w1 (w.heap.size + 1) 4 _ _ hqb
  have f5 := frozen_of_row w1 (w.heap.size + 1) 5 _ _ hqb
  have f6 := frozen_of_row w1 (w.heap.size + 1) 6 _ _ hqb
  clear hown hbq hqb hfb hb1 hb1w hsz0 hQ hT
  unfold Pl.v
  go_wp2_with fail
  have hS0 := scs_first (e := e) HOWN.out HQB.out HFB.out HB1.out hs1
  clear k1 k3 k4 k5 k6 f1 f3 f4 f5 f6 HOWN HQB HFB HB1
  generalize (((((w1.setCell ⟨w.heap.size + 1, 1, none⟩ (.slice ao gs.length cap)).setCell ⟨w.heap.size + 1, 3, none⟩ (.int .i64 e.b)).setCell ⟨w.heap.size + 1, 4, none⟩ (.int .i64 e.g)).setCell ⟨w.heap.size + 1, 5, none⟩ (.int .i64 e.l)).setCell ⟨w.heap.size + 1, 6, none⟩ (.int .i64 e.c)) = w2 at hS0 ⊢
  generalize w1.heap.size = B at hS0 hs1
  have hends := HQ.out.ends pl0_ok (Nat.zero_le _)
  have hgl : gs.length ≤ 4096 := by simp only [pl0] at hends; omega
  have heb : e.b ≤ s.size := hends.2.2.1
  clear hends
  refine (skip_any w2 _ s _ gs 0 e hS0.scn (by omega)).mono ?_
  rintro r w3 ⟨rfl, ht3, j0, _, hdj0, hS3⟩
  have HS := hide (hS0.tq ht3 hS3)
  rw [List.drop_zero] at hdj0
  have HD0 := hide hdj0
  clear hS0 ht3 hS3 hdj0
  generalize hq : w.heap.size + 1 = q at *
  generalize hf : w.heap.size = f at *
  replace hf : w.heap.size ≤ f := by omega
  go_wp2
  have hqf : q ≠ f := by omega
  have hfq : f ≠ q := by omega
  clear hq
  obtain ⟨i0, hi0, hz0, hz1, hz2⟩ := info_is infoT
  go_loopw [6] (fun tv wr => ∃ (ts : List Tk) (i : Nat) (ta : Option Addr) (tc : Nat) (rest : List Gl), tv = .slice ta ts.length tc ∧ ScS w wr q f B s (.slice ao gs.length cap) gs i e ts (.slice ta ts.length tc) ∧ ts.length ≤ i ∧ gs.drop i = skp false rest ∧ ∀ o, ScanR s e rest o → ScanR s e gs (o.pres ts)) (fun _ wr => gs.length - nxtS wr q)
  case atStart => exact ⟨[], j0, none, 0, gs, rfl, HS.out, Nat.zero_le _, HD0.out, fun o h => by rw [pres_nil]; exact h⟩
  case round =>
    clear HS HD0
    obtain ⟨ts, i, ta, tc, rest, rfl, hS, hti, hdi, hpre⟩ := hrel
    have HS := hide hS
    have HE := hide hpre
    have HDI := hide hdi
    have IP := hide hS.scn.nxt
    have hil := hS.scn.le
    obtain ⟨hq, k0, k1, k2, k3, k4, k5, k6⟩ := hS.scn.cells
    clear hS hpre hdi
    by_cases hj : i < gs.length
    · have hj' : (i : Int) < (gs.length : Int) := by omega
      have hgi : gs[i]? = some (gs[i]'hj) := List.getElem?_eq_getElem hj
      have hdr := List.drop_eq_getElem_cons hj
      generalize gs[i]'hj = g at hgi hdr
      have HG := hide hgi
      have HDR := hide hdr
      clear hgi hdr
      go_wp2_with fail
      go_quiet (fail)
      have HS1 := hide (HS.out.below (gdrewN (Below.refl _ _) nq))
      clear HS k0 k1 k2 k3 k4 k5 k6 hq
      generalize wr.drewN nq = w1 at HS1 ⊢
      go_wp2_with fail
      refine (place_any w1 q s _ gs i e HS1.out.scn).mono ?_
      rintro r w2 ⟨rfl, hb2⟩
      have HS2 := hide (HS1.out.below hb2)
      rw [HDR.out]
      simp only [plf]
      clear hb2 HS1
      unfold Pl.v
      go_wp2_with fail
      have HS3 := hide (HS2.out.below ((Below.refl _ _).alloc (Nat.le_refl _) (.cells #[.int .i64 g.pl.b, .int .i64 g.pl.g, .int .i64 g.pl.l, .int .i64 g.pl.c] 25)))
      have hp3 : PlB (w2.alloc (.cells #[.int .i64 g.pl.b, .int .i64 g.pl.g, .int .i64 g.pl.l, .int .i64 g.pl.c] 25)) w2.heap.size g.pl := heap_alloc_new w2 _
      have ha3 : w2.heap.size ≠ q ∧ w2.heap.size ≠ f := by have := HS2.out.siz; have := HS2.out.qB; have := HS2.out.fB; omega
      clear HS2
      generalize w2.alloc (.cells #[.int .i64 g.pl.b, .int .i64 g.pl.g, .int .i64 g.pl.l, .int .i64 g.pl.c] 25) = w3 at HS3 hp3 ⊢
      generalize w2.heap.size = a7 at ha3 hp3 ⊢
      have HP3 := hide hp3
      clear hp3
      refine (token_any w3 q s _ gs i e HS3.out.scn (by omega) HQ.out hs g HG.out).mono ?_
      rintro r w4 ⟨o, ho, hO⟩
      obtain ⟨kd, tx, kk, rfl, hV⟩ := hO.v
      have HV := hide hV
      have HO := hide ho
      have HP4 := hide (HP3.out.tq hV.tq ha3.1)
      have HZ4 := hide (HS3.out.zer.tq hV.tq hfq)
      have HB4 := hide (below_tq HS3.out.bel hV.tq HS3.out.qw (Nat.le_refl _))
      clear hO hV ho HP3
      obtain ⟨hf7, p0, p1, p2, p3⟩ := HP4.out.cells
      by_cases hk : kk = 0
      · subst hk
        cases o with
        | bad k =>
          exfalso
          obtain ⟨h1, h2, _⟩ := HV.out.out
          simp only [tok0, Ending.returned.injEq, Value.tuple.injEq, Array.mk.injEq, List.cons.injEq, Value.int.injEq, true_and, and_true] at h2
          exact h1 h2.2.symm
        | ok kind text rest' =>
          obtain ⟨h2, hT4, j, hij, hdj, hS4⟩ := HV.out.out
          simp only [Ending.returned.injEq, Value.tuple.injEq, Array.mk.injEq, List.cons.injEq, Value.int.injEq, Value.agg.injEq, Value.string.injEq, true_and, and_true] at h2
          obtain ⟨rfl, rfl⟩ := h2
          have HS4 := hide (HS3.out.tq hT4 hS4)
          have HDJ := hide hdj
          clear hT4 hS4 hdj HS3 HV HZ4 HB4
          have hone : ∀ u ∈ ([.int .i64 kd, .string tx, .int .i64 g.pl.b, .int .i64 g.pl.g, .int .i64 g.pl.l, .int .i64 g.pl.c] : List Value), u.oneCell' = true := by
            intro u hu
            simp only [List.mem_cons, List.not_mem_nil, or_false] at hu
            rcases hu with rfl | rfl | rfl | rfl | rfl | rfl <;> rfl
          have hown := own_below (own_below HS4.out.own ((Below.refl _ _).alloc (Nat.le_refl _) (.cells #[.int .i64 kd, .string tx, .int .i64 g.pl.b, .int .i64 g.pl.g, .int .i64 g.pl.l, .int .i64 g.pl.c] 35))) ((Below.refl _ _).alloc (Nat.le_refl _) (.cells #[.int .i64 kd, .string tx, .int .i64 g.pl.b, .int .i64 g.pl.g, .int .i64 g.pl.l, .int .i64 g.pl.c] 35))
          have hsz := HS4.out.siz
          go_wp2_with (at_builtin; refine wpList_append_lies _ rfl (.tmp 55) (.tmp 57) 23 rfl B 35 i0 _ 6 56 Tryd.underlying23 hi0 hz0 hz1 hz2 rfl (by decide) (.slice ta ts.length tc) ts.length (tflat ts) (by simp [Act.eval]) hown ⟨w4.heap.size + 1, 0, none⟩ 1 1 [.int .i64 kd, .string tx, .int .i64 g.pl.b, .int .i64 g.pl.g, .int .i64 g.pl.l, .int .i64 g.pl.c] (by simp [Act.eval]) rfl (by have := World.news_of_block (heap_alloc_new (w4.alloc (.cells #[.int .i64 kd, .string tx, .int .i64 g.pl.b, .int .i64 g.pl.g, .int .i64 g.pl.l, .int .i64 g.pl.c] 35)) (.cells #[.int .i64 kd, .string tx, .int .i64 g.pl.b, .int .i64 g.pl.g, .int .i64 g.pl.l, .int .i64 g.pl.c] 35)); rwa [World.size_alloc] at this) hone (by omega) (by unfold maxLen; omega) (by omega) (by simp [World.size_alloc]; omega) _ rfl ?_; intro g1 cap1 w5 hown5 hgrow5 hat5 hlt5)
          have HS5 := hide ((HS4.out.below (below_two _ _ _)).more (t := ⟨kd, tx, g.pl⟩) hgrow5 (by simpa [tflat_append, tflat] using hown5))
          clear hown5 hgrow5 hat5 hlt5 hown hone hsz HS4
          refine (skip_any w5 q s _ gs j e HS5.out.scn (by omega)).mono ?_
          rintro r w6 ⟨rfl, ht6, j6, hj6, hdj6, hS6⟩
          have HS6 := hide (HS5.out.tq ht6 hS6)
          have HD6 := hide hdj6
          clear ht6 hS6 hdj6 HS5
          go_wp2
          go_roundw
          case rel =>
            refine ⟨ts ++ [⟨kd, tx, g.pl⟩], j6, some ⟨g1, 0, none⟩, cap1, rest', by simp, ?_, by simp; omega, by rw [HD6.out, HDJ.out], ?_⟩
            · have := HS6.out
              simpa using this
            · intro o ho
              have h1 := HE.out _ (ScanR.tok rest g (gs.drop (i + 1)) kd tx rest' o (by rw [← HDI.out, HDR.out]) HO.out ho)
              rwa [pres_pre] at h1
          case measure => rw [IP.out, HS6.out.scn.nxt]; have := HS6.out.scn.le; omega
      · have hk' : (kk != 0) = true := by simp [hk]
        cases o with
        | ok kind text rest' =>
          exfalso
          obtain ⟨h2, _⟩ := HV.out.out
          simp only [Ending.returned.injEq, Value.tuple.injEq, Array.mk.injEq, List.cons.injEq, Value.int.injEq, Value.agg.injEq, Value.string.injEq, true_and, and_true] at h2
          exact hk h2.2
        | bad k =>
          obtain ⟨h1, h2, _⟩ := HV.out.out
          simp only [tok0, Ending.returned.injEq, Value.tuple.injEq, Array.mk.injEq, List.cons.injEq, Value.int.injEq, Value.agg.injEq, Value.string.injEq, true_and, and_true] at h2
          have hkk : kk = k := h2.2
          have HKK := hide hkk
          clear h2 hkk HV
          obtain ⟨hff, y0, y1, y2, y3⟩ := HZ4.out.cells
          have f0 := frozen_of_row w4 f 0 _ _ HZ4.out
          have f1 := frozen_of_row w4 f 1 _ _ HZ4.out
          have f2 := frozen_of_row w4 f 2 _ _ HZ4.out
          have f3 := frozen_of_row w4 f 3 _ _ HZ4.out
          go_wp2_with fail
          go_region
          go_wp2
          have hX : PlB ((((((w4.setCell ⟨f, 0, none⟩ (.int .i64 g.pl.b)).setCell ⟨f, 1, none⟩ (.int .i64 g.pl.g)).setCell ⟨f, 2, none⟩ (.int .i64 g.pl.l)).setCell ⟨f, 3, none⟩ (.int .i64 g.pl.c)).alloc (.cells #[.int .i64 kd, .string tx, .int .i64 0, .int .i64 0, .int .i64 0, .int .i64 0] 35)).drew) f g.pl := (plB_fill HZ4.out).below (((Below.refl _ _).alloc (Nat.le_refl _) _).drew)
          have hXB : Below w.heap.size w ((((((w4.setCell ⟨f, 0, none⟩ (.int .i64 g.pl.b)).setCell ⟨f, 1, none⟩ (.int .i64 g.pl.g)).setCell ⟨f, 2, none⟩ (.int .i64 g.pl.l)).setCell ⟨f, 3, none⟩ (.int .i64 g.pl.c)).alloc (.cells #[.int .i64 kd, .string tx, .int .i64 0, .int .i64 0, .int .i64 0, .int .i64 0] 35)).drew) := ((fill_below HB4.out hf _ _ _ _).alloc (by have := HB4.out.size; simpa [World.setCell] using this) _).drew
          generalize ((((((w4.setCell ⟨f, 0, none⟩ (.int .i64 g.pl.b)).setCell ⟨f, 1, none⟩ (.int .i64 g.pl.g)).setCell ⟨f, 2, none⟩ (.int .i64 g.pl.l)).setCell ⟨f, 3, none⟩ (.int .i64 g.pl.c)).alloc (.cells #[.int .i64 kd, .string tx, .int .i64 0, .int .i64 0, .int .i64 0, .int .i64 0] 35)).drew) = wf at hX hXB ⊢
          obtain ⟨_, x0, x1, x2, x3⟩ := hX.cells
          refine bodyPost_ret (v := _) (by simp [results, Tryd.results11, go_sem, x0, x1, x2, x3]; try rfl) rfl ⟨hXB, gs, e, .bad k g.pl, HQ.out, HE.out _ (ScanR.bad rest g (gs.drop (i + 1)) k (by rw [← HDI.out, HDR.out]) HO.out), ?_⟩
          show _ = _
          rw [HKK.out]
          rfl
    · have hdr : gs.drop i = [] := List.drop_eq_nil_of_le (by omega)
      rw [hdr] at HDI
      have hj' : decide ((i : Int) < (gs.length : Int)) = false := by simp; omega
      clear hdr
      by_cases hbe : e.b < s.size
      · have hbe' : (e.b : Int) < (s.size : Int) := by omega
        obtain ⟨hff, y0, y1, y2, y3⟩ := HS.out.zer.cells
        have f0 := frozen_of_row wr f 0 _ _ HS.out.zer
        have f1 := frozen_of_row wr f 1 _ _ HS.out.zer
        have f2 := frozen_of_row wr f 2 _ _ HS.out.zer
        have f3 := frozen_of_row wr f 3 _ _ HS.out.zer
        go_wp2_with fail
        go_quiet (fail)
        go_wp2_with fail
        go_region
        go_wp2
        refine bodyPost_ret (v := _) (by simp [results, Tryd.results11, go_sem, y0, y1, y2, y3]; try rfl) rfl ⟨?_, gs, e, .bad 40 e, HQ.out, HE.out _ (ScanR.rune rest HDI.out.symm hbe), rfl⟩
        have hB := HS.out.bel
        (repeat' (first | (with_reducible exact Below.refl _ _) | (with_reducible assumption) | (with_reducible refine gdrewN ?_ _) | (with_reducible refine Below.alloc ?_ ?_ _) | (with_reducible refine Below.drew ?_) | (with_reducible refine Below.setCell ?_ ?_ _) | go_size))
      · have hbe' : decide ((e.b : Int) < (s.size : Int)) = false := by simp; omega
        have hone : ∀ u ∈ ([.int .i64 0, .string ⟨#[]⟩, .int .i64 e.b, .int .i64 e.g, .int .i64 e.l, .int .i64 e.c] : List Value), u.oneCell' = true := by
          intro u hu
          simp only [List.mem_cons, List.not_mem_nil, or_false] at hu
          rcases hu with rfl | rfl | rfl | rfl | rfl | rfl <;> rfl
        go_wp2_with fail
        go_quiet (fail)
        have HS1 := hide (HS.out.below (gdrewN (Below.refl _ _) nq))
        clear HS k0 k1 k2 k3 k4 k5 k6 hq
        generalize wr.drewN nq = w1 at HS1 ⊢
        obtain ⟨hq, k0, k1, k2, k3, k4, k5, k6⟩ := HS1.out.scn.cells
        have hown := own_below HS1.out.own ((Below.refl _ _).alloc (Nat.le_refl _) (.cells #[.int .i64 0, .string ⟨#[]⟩, .int .i64 e.b, .int .i64 e.g, .int .i64 e.l, .int .i64 e.c] 35))
        have hsz := HS1.out.siz
        go_wp2_with (at_builtin; refine wpList_append_lies _ rfl (.tmp 71) (.tmp 77) 23 rfl B 35 i0 _ 6 56 Tryd.underlying23 hi0 hz0 hz1 hz2 rfl (by decide) (.slice ta ts.length tc) ts.length (tflat ts) (by simp [Act.eval]) hown ⟨w1.heap.size, 0, none⟩ 1 1 [.int .i64 0, .string ⟨#[]⟩, .int .i64 e.b, .int .i64 e.g, .int .i64 e.l, .int .i64 e.c] (by simp [Act.eval]) rfl (World.news_of_block (heap_alloc_new w1 (.cells #[.int .i64 0, .string ⟨#[]⟩, .int .i64 e.b, .int .i64 e.g, .int .i64 e.l, .int .i64 e.c] 35))) hone (by omega) (by unfold maxLen; omega) (by omega) (by simp [World.size_alloc]; omega) _ rfl ?_; intro g1 cap1 w5 hown5 hgrow5 hat5 hlt5; have HS5 := hide ((HS1.out.below ((Below.refl _ _).alloc (Nat.le_refl _) _)).more (t := ⟨0, ⟨#[]⟩, e⟩) hgrow5 (by simpa [tflat_append, tflat] using hown5)); obtain ⟨hff, y0, y1, y2, y3⟩ := HS5.out.zer.cells; have f0 := frozen_of_row w5 f 0 _ _ HS5.out.zer; have f1 := frozen_of_row w5 f 1 _ _ HS5.out.zer; have f2 := frozen_of_row w5 f 2 _ _ HS5.out.zer; have f3 := frozen_of_row w5 f 3 _ _ HS5.out.zer; clear hown5 hgrow5 hat5 hlt5)
        refine bodyPost_ret (v := .tuple #[.slice (some ⟨g1, 0, none⟩) (ts.length + 1) cap1, .int .i64 0, plz.v]) (by simp [results, Tryd.results11, go_sem, y0, y1, y2, y3, plz, Pl.v]) rfl ⟨?_, gs, e, .ok (ts ++ [(⟨0, ⟨#[]⟩, e⟩ : Tk)]), HQ.out, HE.out _ (ScanR.done rest HDI.out.symm (by omega)), _, rfl, ?_⟩
        · have hB := HS5.out.bel
          (repeat' (first | (with_reducible exact Below.refl _ _) | (with_reducible assumption) | (with_reducible refine gdrewN ?_ _) | (with_reducible refine Below.alloc ?_ ?_ _) | (with_reducible refine Below.drew ?_) | (with_reducible refine Below.setCell ?_ ?_ _) | go_size))
        · have e5 : (ts ++ [(⟨0, ⟨#[]⟩, e⟩ : Tk)]).length = ts.length + 1 := by simp
          have h5 := HS5.out.own
          rw [e5] at h5 ⊢
          refine own_mono (own_keep h5 ?_) (show w.heap.size ≤ B by omega)
          intro k o hk he
          have hkf : k ≠ f := by omega
          rw [heap_setCell_other _ ⟨f, 3, none⟩ k _ hkf, heap_setCell_other _ ⟨f, 2, none⟩ k _ hkf, heap_setCell_other _ ⟨f, 1, none⟩ k _ hkf, heap_setCell_other _ ⟨f, 0, none⟩ k _ hkf]
          exact he
theorem scan_any (w : World) (s : ByteArray) (hT : Tabs w) :
    Calls Tryd.prog 11 #[.string s] w fun r w' => Below w.heap.size w w' ∧ ((4096 < s.size ∧ r = .returned (.tuple #[.slice none 0 0, .int .i64 2, plz.v])) ∨ (s.size ≤ 4096 ∧ ∃ gs e o, Snd s pl0 gs e ∧ ScanR s e gs o ∧ ScanO w w' r o)) := by
  by_cases hs : 4096 < s.size
  · exact (scan_long w s hs).mono fun r w' h => ⟨h.1, .inl ⟨hs, h.2⟩⟩
  · exact (scan_short w s hT (by omega)).mono fun r w' h => ⟨h.1, .inr ⟨by omega, h.2⟩⟩
end Lm
end Go.Proofs.YtgfglefgpgckiaaDoor

namespace Go.Proofs.YtgfglefgpgckiaaDoor
namespace Lm
open Go Go.RowKit
theorem snd_step {s : ByteArray} {p e : Pl} {gs : List Gl} {c k : Nat} (h : p.b < s.size) (hd : Utf8.decode s p.b = (c, k)) (hc : (c, k) ≠ (65533, 1)) (hr : Snd s (p.past c k) gs e) : Snd s p (⟨c, p⟩ :: gs) e := by
  have := Snd.go p gs e h (by rw [hd]; exact hc) (by rw [hd]; exact hr)
  rwa [hd] at this
theorem tok_name {s : ByteArray} {e : Pl} {g : Gl} {r t : List Gl} {x : ByteArray} (h : gcls g.code = 2) (ht : (g :: r).dropWhile (inC [2, 3, 4]) = t) (hl : ¬ 16 < (g :: r).length - t.length) (hx : s.extract g.pl.b (plf t e).b = x) : TokR s e g r (.ok 1 x t) := by
  have := tokR_name (s := s) (e := e) (r := r) h
  rwa [ht, if_neg hl, hx] at this
def aws : ByteArray := ⟨#[206, 177, 32, 226, 137, 148, 32, 50, 120]⟩
theorem aws_snd : Snd aws pl0 [⟨945, ⟨0, 0, 1, 1⟩⟩, ⟨32, ⟨2, 1, 1, 2⟩⟩, ⟨8788, ⟨3, 2, 1, 3⟩⟩, ⟨32, ⟨6, 3, 1, 4⟩⟩, ⟨50, ⟨7, 4, 1, 5⟩⟩, ⟨120, ⟨8, 5, 1, 6⟩⟩] ⟨9, 6, 1, 7⟩ := by
  refine snd_step (k := 2) (by decide) (by kernel_rfl) (by decide) ?_
  refine snd_step (p := ⟨2, 1, 1, 2⟩) (k := 1) (by decide) (by kernel_rfl) (by decide) ?_
  refine snd_step (p := ⟨3, 2, 1, 3⟩) (k := 3) (by decide) (by kernel_rfl) (by decide) ?_
  refine snd_step (p := ⟨6, 3, 1, 4⟩) (k := 1) (by decide) (by kernel_rfl) (by decide) ?_
  refine snd_step (p := ⟨7, 4, 1, 5⟩) (k := 1) (by decide) (by kernel_rfl) (by decide) ?_
  refine snd_step (p := ⟨8, 5, 1, 6⟩) (k := 1) (by decide) (by kernel_rfl) (by decide) ?_
  exact .stop ⟨9, 6, 1, 7⟩ (.inl (by decide))
theorem aws_scan : ScanR aws ⟨9, 6, 1, 7⟩ [⟨945, ⟨0, 0, 1, 1⟩⟩, ⟨32, ⟨2, 1, 1, 2⟩⟩, ⟨8788, ⟨3, 2, 1, 3⟩⟩, ⟨32, ⟨6, 3, 1, 4⟩⟩, ⟨50, ⟨7, 4, 1, 5⟩⟩, ⟨120, ⟨8, 5, 1, 6⟩⟩] (.ok [⟨1, ⟨#[206, 177]⟩, ⟨0, 0, 1, 1⟩⟩, ⟨3, ⟨#[58, 61]⟩, ⟨3, 2, 1, 3⟩⟩, ⟨2, ⟨#[50]⟩, ⟨7, 4, 1, 5⟩⟩, ⟨1, ⟨#[120]⟩, ⟨8, 5, 1, 6⟩⟩, ⟨0, ⟨#[]⟩, ⟨9, 6, 1, 7⟩⟩]) := by
  refine ScanR.tok _ ⟨945, ⟨0, 0, 1, 1⟩⟩ [⟨32, ⟨2, 1, 1, 2⟩⟩, ⟨8788, ⟨3, 2, 1, 3⟩⟩, ⟨32, ⟨6, 3, 1, 4⟩⟩, ⟨50, ⟨7, 4, 1, 5⟩⟩, ⟨120, ⟨8, 5, 1, 6⟩⟩] 1 ⟨#[206, 177]⟩ [⟨32, ⟨2, 1, 1, 2⟩⟩, ⟨8788, ⟨3, 2, 1, 3⟩⟩, ⟨32, ⟨6, 3, 1, 4⟩⟩, ⟨50, ⟨7, 4, 1, 5⟩⟩, ⟨120, ⟨8, 5, 1, 6⟩⟩] (.ok [⟨3, ⟨#[58, 61]⟩, ⟨3, 2, 1, 3⟩⟩, ⟨2, ⟨#[50]⟩, ⟨7, 4, 1, 5⟩⟩, ⟨1, ⟨#[120]⟩, ⟨8, 5, 1, 6⟩⟩, ⟨0, ⟨#[]⟩, ⟨9, 6, 1, 7⟩⟩]) (by kernel_rfl) (tok_name (by kernel_rfl) (by kernel_rfl) (by decide) (by kernel_rfl)) ?_
  refine ScanR.tok _ ⟨8788, ⟨3, 2, 1, 3⟩⟩ [⟨32, ⟨6, 3, 1, 4⟩⟩, ⟨50, ⟨7, 4, 1, 5⟩⟩, ⟨120, ⟨8, 5, 1, 6⟩⟩] 3 ⟨#[58, 61]⟩ [⟨32, ⟨6, 3, 1, 4⟩⟩, ⟨50, ⟨7, 4, 1, 5⟩⟩, ⟨120, ⟨8, 5, 1, 6⟩⟩] (.ok [⟨2, ⟨#[50]⟩, ⟨7, 4, 1, 5⟩⟩, ⟨1, ⟨#[120]⟩, ⟨8, 5, 1, 6⟩⟩, ⟨0, ⟨#[]⟩, ⟨9, 6, 1, 7⟩⟩]) (by kernel_rfl) (tokR_sign (by kernel_rfl)) ?_
  have hnum : TokR aws ⟨9, 6, 1, 7⟩ ⟨50, ⟨7, 4, 1, 5⟩⟩ [⟨120, ⟨8, 5, 1, 6⟩⟩] (.ok 2 ⟨#[50]⟩ [⟨120, ⟨8, 5, 1, 6⟩⟩]) := by
    have hv : dval (bytesOf (aws.extract 7 8)) = 2 := by kernel_rfl
    have h1 : IsLen (dval (bytesOf (aws.extract 7 8))) 1 := ⟨[2], ⟨by intro z hz; simp at hz; omega, by kernel_rfl⟩, by rw [hv]; kernel_rfl, rfl⟩
    have h2 : IsDec [50] (dval (bytesOf (aws.extract 7 8))) := ⟨by intro z hz; simp at hz; omega, by rw [hv]; kernel_rfl, .inr ⟨50, [], rfl, by decide⟩⟩
    exact tokR_num (s := aws) (e := ⟨9, 6, 1, 7⟩) (g := ⟨50, ⟨7, 4, 1, 5⟩⟩) (r := [⟨120, ⟨8, 5, 1, 6⟩⟩]) (n := 1) (ds := [50]) (by kernel_rfl) h1 h2
  refine ScanR.tok _ ⟨50, ⟨7, 4, 1, 5⟩⟩ [⟨120, ⟨8, 5, 1, 6⟩⟩] 2 ⟨#[50]⟩ [⟨120, ⟨8, 5, 1, 6⟩⟩] (.ok [⟨1, ⟨#[120]⟩, ⟨8, 5, 1, 6⟩⟩, ⟨0, ⟨#[]⟩, ⟨9, 6, 1, 7⟩⟩]) (by kernel_rfl) hnum ?_
  refine ScanR.tok _ ⟨120, ⟨8, 5, 1, 6⟩⟩ [] 1 ⟨#[120]⟩ [] (.ok [⟨0, ⟨#[]⟩, ⟨9, 6, 1, 7⟩⟩]) (by kernel_rfl) (tok_name (by kernel_rfl) (by kernel_rfl) (by decide) (by kernel_rfl)) ?_
  exact ScanR.done _ (by kernel_rfl) (by decide)
set_option maxRecDepth 20000 in
set_option maxHeartbeats 1000000 in
theorem gawake_any (w : World) (hT : Tabs w) :
    Calls Tryd.prog 9 #[] w fun r w' => r = .returned (.bool true) ∧ Below w.heap.size w w' := by
  have K : Calls Tryd.prog 11 #[.string ⟨#[206, 177, 32, 226, 137, 148, 32, 50, 120]⟩] w fun r w' => Below w.heap.size w w' ∧ ∃ v, r = .returned (.tuple #[v, .int .i64 0, .agg #[.int .i64 0, .int .i64 0, .int .i64 0, .int .i64 0]]) ∧ w'.ownsRow w.heap.size 35 6 v 5 (tflat [⟨1, ⟨#[206, 177]⟩, ⟨0, 0, 1, 1⟩⟩, ⟨3, ⟨#[58, 61]⟩, ⟨3, 2, 1, 3⟩⟩, ⟨2, ⟨#[50]⟩, ⟨7, 4, 1, 5⟩⟩, ⟨1, ⟨#[120]⟩, ⟨8, 5, 1, 6⟩⟩, ⟨0, ⟨#[]⟩, ⟨9, 6, 1, 7⟩⟩]) := by
    refine (scan_any w aws hT).mono ?_
    rintro r w' ⟨hb, ⟨h, _⟩ | ⟨_, gs, e, o, h1, h2, h3⟩⟩
    · exact absurd h (by decide)
    · obtain ⟨rfl, rfl⟩ := h1.one aws_snd
      obtain rfl := h2.one aws_scan
      obtain ⟨v, h4, h5⟩ := h3
      exact ⟨hb, v, h4, h5⟩
  go_enter Tryd.func9, Tryd.ntmps9
  go_wp2_with fail
  refine K.mono ?_
  rintro r w1 ⟨hb, v, rfl, hown⟩
  have HB := hide hb
  obtain ⟨ao, cap, rfl, c1, c2, c3, c4⟩ := Ce.own hown
  rcases c4 with c4 | ⟨b, off, rfl, hl, hc⟩
  · omega
  have t0 : w1.cell? ⟨b, off + 1, none⟩ = some (.string ⟨#[206, 177]⟩) := hc 1 _ rfl
  have t1 : w1.cell? ⟨b, off + 6 + 1, none⟩ = some (.string ⟨#[58, 61]⟩) := hc 7 _ rfl
  have t2 : w1.cell? ⟨b, off + 12 + 1, none⟩ = some (.string ⟨#[50]⟩) := hc 13 _ rfl
  have t3 : w1.cell? ⟨b, off + 18 + 1, none⟩ = some (.string ⟨#[120]⟩) := hc 19 _ rfl
  have t4 : w1.cell? ⟨b, off + 24, none⟩ = some (.int .i64 0) := hc 24 _ rfl
  have hK2 : gcls 945 = 2 := by kernel_rfl
  clear hb hown c1 c2 c3 hc K
  go_wp2_with (go_at_call 23; refine (gcls_any _ _).mono ?_; rintro r w' ⟨rfl, rfl⟩)
  go_ret
  exact ⟨rfl, HB.out.alloc HB.out.size _⟩
end Lm
end Go.Proofs.YtgfglefgpgckiaaDoor

namespace Go.Proofs.YtgfglefgpgckiaaDoor
namespace Lm
open Go Go.RowKit
def Ts (w : World) (v : Value) (l : List Tk) : Prop := Ce w v 6 l.length (tflat l)
theorem Ts.below {w w' : World} {v : Value} {l : List Tk} (h : Ts w v l) (hb : Below w.heap.size w w') : Ts w' v l := Ce.below h hb
theorem tflat_at {l : List Tk} {i : Nat} {t : Tk} (h : l[i]? = some t) : (tflat l)[i * 6]? = some (.int .i64 t.kind) ∧ (tflat l)[i * 6 + 1]? = some (.string t.text) ∧ (tflat l)[i * 6 + 2]? = some (.int .i64 t.pl.b) ∧ (tflat l)[i * 6 + 3]? = some (.int .i64 t.pl.g) ∧ (tflat l)[i * 6 + 4]? = some (.int .i64 t.pl.l) ∧ (tflat l)[i * 6 + 5]? = some (.int .i64 t.pl.c) := by
  induction l generalizing i with
  | nil => simp at h
  | cons u l ih =>
    cases i with
    | zero =>
      simp at h
      subst h
      simp [tflat]
    | succ i =>
      have := ih (i := i) (by simpa using h)
      simp only [tflat, show (i + 1) * 6 = i * 6 + 6 from by omega]
      simpa using this
structure TkC (w : World) (b o : Nat) (t : Tk) : Prop where
  hb : b < w.heap.size
  g0 : w.cell? ⟨b, o, none⟩ = some (.int .i64 t.kind)
  g1 : w.cell? ⟨b, o + 1, none⟩ = some (.string t.text)
  g2 : w.cell? ⟨b, o + 2, none⟩ = some (.int .i64 t.pl.b)
  g3 : w.cell? ⟨b, o + 3, none⟩ = some (.int .i64 t.pl.g)
  g4 : w.cell? ⟨b, o + 4, none⟩ = some (.int .i64 t.pl.l)
  g5 : w.cell? ⟨b, o + 5, none⟩ = some (.int .i64 t.pl.c)
theorem TkC.below {w w' : World} {b o : Nat} {t : Tk} (h : TkC w b o t) (hb : Below w.heap.size w w') : TkC w' b o t :=
  ⟨Nat.lt_of_lt_of_le h.hb hb.size, (hb.cell (p := ⟨b, o, none⟩) h.hb).trans h.g0, (hb.cell (p := ⟨b, o + 1, none⟩) h.hb).trans h.g1, (hb.cell (p := ⟨b, o + 2, none⟩) h.hb).trans h.g2, (hb.cell (p := ⟨b, o + 3, none⟩) h.hb).trans h.g3, (hb.cell (p := ⟨b, o + 4, none⟩) h.hb).trans h.g4, (hb.cell (p := ⟨b, o + 5, none⟩) h.hb).trans h.g5⟩
theorem Ts.tok {w : World} {ao : Option Addr} {n cap : Nat} {l : List Tk} {i : Nat} {t : Tk} (h : Ts w (.slice ao n cap) l) (hg : l[i]? = some t) : ∃ b off, ao = some ⟨b, off, none⟩ ∧ TkC w b (off + i * 6) t := by
  obtain ⟨ao', cap', hv, c1, c2, c3, c4⟩ := h
  obtain ⟨rfl, rfl, rfl⟩ := (Value.slice.injEq .. ▸ hv)
  have hk : i < l.length := (List.getElem?_eq_some_iff.1 hg).1
  rcases c4 with c4 | ⟨b, off, rfl, hl, hc⟩
  · omega
  · obtain ⟨f0, f1, f2, f3, f4, f5⟩ := tflat_at hg
    exact ⟨b, off, rfl, hl, hc _ _ f0, hc _ _ f1, hc _ _ f2, hc _ _ f3, hc _ _ f4, hc _ _ f5⟩
theorem Ts.parts {w : World} {v : Value} {l : List Tk} (h : Ts w v l) : ∃ ao cap, v = .slice ao l.length cap ∧ l.length ≤ 9223372036854775807 := by
  obtain ⟨ao, cap, rfl, c1, c2, c3, c4⟩ := h
  exact ⟨ao, cap, rfl, by omega⟩
theorem Ts.own {w : World} {base : Nat} {v : Value} {l : List Tk} (h : w.ownsRow base 35 6 v l.length (tflat l)) : Ts w v l := Ce.own h
end Lm
end Go.Proofs.YtgfglefgpgckiaaDoor

namespace Go.Proofs
open Go.Shelf
shelf_lay Lays.n169 Nm 169 at Tryd as Tryd.lays169
namespace YtgfglefgpgckiaaDoor
namespace Lm
open Go Go.RowKit
theorem bext169 : Builder.Extra Tryd.prog Tryd.lays169_ren where
  sizeBuilder := by kernel_rfl
  liesBuilder := by kernel_rfl
  t5 := Tryd.underlying5
  a5 := Tryd.isAgg5
  z5 := Tryd.sizeOf5
  v5 := Tryd.zeroValue5
  infoByte := by kernel_rfl
  cellsByte := by kernel_rfl
  sizeByte := by kernel_rfl
  neB5 := by decide
def Bld (w : World) (B b : Nat) (l : List UInt8) : Prop := Lib.IsBuilderF 72 5 B b (Lib.byteCells l) w
theorem bsize : (Tryd.prog.info? 72).map (·.size) = some 2 := by kernel_rfl
theorem blies : liesAt Tryd.prog Tryd.prog.depth 72 (2 / Tryd.prog.cellsOf 72) 0 72 1 = true := by kernel_rfl
set_option maxRecDepth 20000 in
set_option maxHeartbeats 1000000 in
set_option maxRecDepth 100000 in
theorem bcheck_used (b : Nat) (w : World) (h0 : w.cell? ⟨b, 0, none⟩ = some (.pointer (some ⟨b, 0, none⟩))) :
    Calls Tryd.prog 53 #[.pointer (some ⟨b, 0, none⟩)] w fun e w' => e = .returned (.tuple #[]) ∧ w' = w := by
  obtain ⟨j, hj, _⟩ := Option.map_eq_some_iff.1 bsize
  go_enter Tryd.func53, Tryd.ntmps53
  go_wp2
  rw [Lib.run_neq_ptr_same w _ Tryd.underlying69 hj]
  go_wp2
  go_end0
  exact ⟨rfl, rfl⟩
set_option maxRecDepth 20000 in
set_option maxHeartbeats 1000000 in
set_option maxRecDepth 100000 in
theorem bcheck_fresh (b : Nat) (w : World) (h0 : w.cell? ⟨b, 0, none⟩ = some (.pointer none)) (hsh : w.shape? b = some (72, 2)) (hfz : w.frozen? ⟨b, 0, none⟩ = false) :
    Calls Tryd.prog 53 #[.pointer (some ⟨b, 0, none⟩)] w fun e w' => e = .returned (.tuple #[]) ∧ w' = w.setCell ⟨b, 0, none⟩ (.pointer (some ⟨b, 0, none⟩)) := by
  obtain ⟨j, hj, hjs⟩ := Option.map_eq_some_iff.1 bsize
  go_enter Tryd.func53, Tryd.ntmps53
  go_wp2
  rw [Lib.run_to_unsafe w ⟨b, 0, none⟩ Tryd.underlying69 Tryd.underlying105 hj (by rw [hjs]; decide) hsh (Nat.zero_lt_succ 1)]
  simp only [Result.andThen]
  rw [Oper.upon_value]
  go_wp2
  rw [run_callFunc_extern Tryd.func68 (by kernel_rfl) (by kernel_rfl) (by kernel_rfl) (e := Extern.AbiNoEscape.same) (by kernel_rfl)]
  rw [Lib.run_noEscape]
  simp only [Result.andThen]
  rw [Oper.upon_value]
  go_wp2
  rw [Lib.run_from_unsafe w ⟨b, 0, none⟩ Tryd.underlying105 Tryd.underlying69 hj hsh blies]
  simp only [Result.andThen]
  rw [Oper.upon_value]
  go_wp2
  go_end0
  exact ⟨rfl, rfl⟩
theorem bcheck (B b : Nat) (l : List UInt8) (w : World) (h : Bld w B b l) :
    Calls Tryd.prog 53 #[.pointer (some ⟨b, 0, none⟩)] w fun e w' => e = .returned (.tuple #[]) ∧ (Lib.BuilderAtF 72 5 B b (.pointer (some ⟨b, 0, none⟩)) (Lib.byteCells l) w' ∧ Below B w w' ∧ Lib.OthersKept 5 (some b) w w') := by
  rcases h with h | h
  · refine (bcheck_fresh b w h.cell0 h.shape h.frozen0).mono ?_
    rintro e w' ⟨rfl, rfl⟩
    exact ⟨rfl, h.used _, (Below.refl B w).setCell (p := ⟨b, 0, none⟩) h.1 _, (Lib.OthersKept.refl _ _ w).setCell ⟨b, 0, none⟩ rfl _⟩
  · refine (bcheck_used b w h.cell0).mono ?_
    rintro e w' ⟨rfl, rfl⟩
    exact ⟨rfl, h, Below.refl B _, Lib.OthersKept.refl _ _ _⟩
theorem binfo : ∃ i0, Tryd.prog.info? 5 = some i0 ∧ i0.zero = some (.int .u8 0) ∧ i0.size = 1 ∧ i0.bytes = 1 := by
  obtain ⟨i0, h1, h2, h3, h4⟩ := info_parts bext169.infoByte
  exact ⟨i0, h1, h2, h3, h4⟩
set_option maxRecDepth 20000 in
set_option maxHeartbeats 2000000 in
set_option maxRecDepth 100000 in
theorem bwbyte (B b : Nat) (l : List UInt8) (c : UInt8) (z : Int) (hz : z = (c.toNat : Int)) (w : World) (h : Bld w B b l) (hlen : l.length + 1 ≤ 140737488355328) (hBw : B ≤ w.heap.size) :
    Calls Tryd.prog 31 #[.pointer (some ⟨b, 0, none⟩), .int .u8 z] w fun e w' => e = .returned .nilIface ∧ Bld w' B b (l ++ [c]) ∧ Below B w w' ∧ Lib.OthersKept 5 (some b) w w' := by
  obtain ⟨i0, hi, hz0, hz1, hz2⟩ := binfo
  have hbl : (Lib.byteCells l).length = l.length := Lib.byteCells_length l
  have HL := hide hbl
  have HH := hide h
  have HZ : Hid (z = (c.toNat : Int)) := hz
  clear hbl h hz
  go_enter Tryd.func31, Tryd.ntmps31
  go_wp2_with fail
  refine (bcheck B b l _ HH.out).mono ?_
  rintro e w1 ⟨rfl, h1, hb1, hk1⟩
  obtain ⟨hB, v, hbk, hown, hne⟩ := h1
  have c0 : w1.cell? ⟨b, 0, none⟩ = some (.pointer (some ⟨b, 0, none⟩)) := by rw [Lib.cell_of_heap hbk]; rfl
  have c1 : w1.cell? ⟨b, 1, none⟩ = some v := by rw [Lib.cell_of_heap hbk]; rfl
  go_wp2_with (at_builtin; refine wpList_append_ownF _ rfl _ _ 70 rfl B 5 i0 (.int .u8 0) 1 1 Tryd.underlying70 hi hz0 hz1 hz2 rfl (by decide) _ _ _ rfl (hown.alloc _) ⟨w1.heap.size, 0, none⟩ 1 1 [.int .u8 z] rfl rfl ?c1 ?c2 ?c3 ?c4 ?c5 ?_)
  case c1 =>
    intro j u hj
    match j, hj with
    | 0, hj => simp at hj; subst hj; simp [Addr.add]
  case c2 => intro u hu; simp at hu; subst hu; rfl
  case c3 => have := HL.out; unfold maxLen; omega
  case c4 => have := HL.out; omega
  case c5 => have := hb1.size; simp; omega
  intro v' w2 hown' hgrow _
  have hlt : b < w1.heap.size := lt_of_heap hbk
  have hb2 : w2.heap[b]? = some (.cells #[.pointer (some ⟨b, 0, none⟩), v] 72 (0, 0)) := by
    rw [hgrow.block b (by simp; omega) (fun e => hne e.symm), Lib.alloc_old w1 _ b hlt]
    exact hbk
  have d0 : w2.cell? ⟨b, 0, none⟩ = some (.pointer (some ⟨b, 0, none⟩)) := by rw [Lib.cell_of_heap hb2]; rfl
  have d1 : w2.cell? ⟨b, 1, none⟩ = some v := by rw [Lib.cell_of_heap hb2]; rfl
  have f1 : w2.frozen? ⟨b, 1, none⟩ = false := Lib.frozen_of_heap hb2 1
  obtain ⟨g, cap, rfl⟩ : ∃ g cap, v' = .slice (some ⟨g, 0, none⟩) ((Lib.byteCells l).length + 1) cap := by
    rcases hown'.2 with ⟨_, h0⟩ | ⟨g, cap, cur, fz, hv, _⟩
    · omega
    · exact ⟨g, cap, hv⟩
  go_wp2
  go_ret
  refine ⟨rfl, ?_, ?_, ((hk1.alloc _).grown hgrow (Lib.ownsRowF_kind (hown.alloc _))).setCell ⟨b, 1, none⟩ rfl _⟩
  · unfold Bld
    rw [Lib.byteCells_append]
    have hcc : Lib.byteCells [c] = [.int .u8 z] := by rw [HZ.out]; rfl
    rw [hcc]
    exact .inr (Lib.BuilderAtF.put (T := 72) (e := 5) hB hb2 (bs' := Lib.byteCells l ++ [.int .u8 z]) (by simpa using hown') bext169.neB5)
  · exact ((hb1.alloc (by have := hb1.size; omega) _).grown hgrow (by have := hb1.size; simp; omega) (fun k hk => (hown.lt k hk).1)).setCell (p := ⟨b, 1, none⟩) hB _
set_option maxRecDepth 20000 in
set_option maxHeartbeats 2000000 in
set_option maxRecDepth 100000 in
theorem bwstr (B b : Nat) (l : List UInt8) (s : ByteArray) (w : World) (h : Bld w B b l) (hlen : l.length + s.size ≤ 140737488355328) (hBw : B ≤ w.heap.size) :
    Calls Tryd.prog 32 #[.pointer (some ⟨b, 0, none⟩), .string s] w fun e w' => e = .returned (.tuple #[.int .i64 s.size, .nilIface]) ∧ Bld w' B b (l ++ s.data.toList) ∧ Below B w w' ∧ Lib.OthersKept 5 (some b) w w' := by
  obtain ⟨i0, hi, hz0, hz1, hz2⟩ := binfo
  have hbl : (Lib.byteCells l).length = l.length := Lib.byteCells_length l
  have HL := hide hbl
  have HH := hide h
  clear hbl h
  go_enter Tryd.func32, Tryd.ntmps32
  go_wp2_with fail
  refine (bcheck B b l _ HH.out).mono ?_
  rintro e w1 ⟨rfl, h1, hb1, hk1⟩
  obtain ⟨hB, v, hbk, hown, hne⟩ := h1
  have c0 : w1.cell? ⟨b, 0, none⟩ = some (.pointer (some ⟨b, 0, none⟩)) := by rw [Lib.cell_of_heap hbk]; rfl
  have c1 : w1.cell? ⟨b, 1, none⟩ = some v := by rw [Lib.cell_of_heap hbk]; rfl
  go_wp2_with (at_builtin; refine Lib.wpList_append_own_stringF _ rfl _ _ 70 9 rfl B 5 i0 Tryd.underlying70 Tryd.underlying9 hi hz0 hz1 hz2 _ _ _ rfl hown s rfl ?c3 ?c4 ?c5 ?_)
  case c3 => have := HL.out; unfold maxLen; omega
  case c4 => have := HL.out; omega
  case c5 => have := hb1.size; omega
  intro v' w2 hown' hgrow _
  have hlt : b < w1.heap.size := lt_of_heap hbk
  have hb2 : w2.heap[b]? = some (.cells #[.pointer (some ⟨b, 0, none⟩), v] 72 (0, 0)) := by
    rw [hgrow.block b hlt (fun e => hne e.symm)]
    exact hbk
  have d0 : w2.cell? ⟨b, 0, none⟩ = some (.pointer (some ⟨b, 0, none⟩)) := by rw [Lib.cell_of_heap hb2]; rfl
  have d1 : w2.cell? ⟨b, 1, none⟩ = some v := by rw [Lib.cell_of_heap hb2]; rfl
  have f1 : w2.frozen? ⟨b, 1, none⟩ = false := Lib.frozen_of_heap hb2 1
  obtain ⟨ao, n', cap, rfl⟩ : ∃ ao n' cap, v' = .slice ao n' cap := by
    rcases hown'.2 with ⟨hv, _⟩ | ⟨g, cap, cur, fz, hv, _⟩
    · exact ⟨_, _, _, hv⟩
    · exact ⟨_, _, _, hv⟩
  go_wp2
  go_ret2
  refine ⟨rfl, ?_, ?_, (hk1.grown hgrow (Lib.ownsRowF_kind hown)).setCell ⟨b, 1, none⟩ rfl _⟩
  · unfold Bld
    rw [Lib.byteCells_append]
    have hcc : Lib.byteCells s.data.toList = Lib.strCells s := by rfl
    rw [hcc]
    exact .inr (Lib.BuilderAtF.put (T := 72) (e := 5) hB hb2 (bs' := Lib.byteCells l ++ Lib.strCells s) (by simpa [Lib.strCells_length] using hown') bext169.neB5)
  · exact (hb1.grown hgrow (by have := hb1.size; omega) (fun k hk => (hown.lt k hk).1)).setCell (p := ⟨b, 1, none⟩) hB _
theorem bstring (B b : Nat) (l : List UInt8) (w : World) (h : Bld w B b l) (hBw : B ≤ w.heap.size) :
    Calls Tryd.prog 33 #[.pointer (some ⟨b, 0, none⟩)] w fun e w' => e = .returned (.string ⟨l.toArray⟩) ∧ Below B w w' := by
  refine (Any.Builder_String_any_k Tryd.lays169 bext169 B b l w h hBw).mono ?_
  rintro e w' ⟨rfl, h1, h2, h3⟩
  exact ⟨rfl, h2⟩
end Lm
end YtgfglefgpgckiaaDoor
end Go.Proofs

namespace Go.Proofs.YtgfglefgpgckiaaDoor
namespace Lm
open Go Go.RowKit
def jpre : List ByteArray → List UInt8
  | [] => []
  | x :: r => x.data.toList ++ r.flatMap fun y => 32 :: y.data.toList
theorem jpre_snoc (l : List ByteArray) (x : ByteArray) : jpre (l ++ [x]) = jpre l ++ (if l = [] then [] else [32]) ++ x.data.toList := by
  cases l with
  | nil => simp [jpre]
  | cons y l => simp [jpre, List.flatMap_append]
theorem jpre_le (l : List ByteArray) (i : Nat) : (jpre (l.take i)).length ≤ (jpre l).length := by
  cases l with
  | nil => simp
  | cons x r =>
    cases i with
    | zero => simp [jpre]
    | succ i =>
      simp only [List.take_succ_cons, jpre, List.length_append, List.length_flatMap]
      have : ((r.take i).map fun y => (32 :: y.data.toList).length).sum ≤ (r.map fun y => (32 :: y.data.toList).length).sum := by
        conv => rhs; rw [← List.take_append_drop i r, List.map_append, List.sum_append]
        omega
      omega
def TkB (w : World) (f : Nat) (t : Tk) : Prop := w.heap[f]? = some (.cells #[.int .i64 t.kind, .string t.text, .int .i64 t.pl.b, .int .i64 t.pl.g, .int .i64 t.pl.l, .int .i64 t.pl.c] 35 (0, 0))
set_option maxRecDepth 20000 in
set_option maxHeartbeats 2000000 in
theorem join_any (w : World) (v : Value) (l : List Tk) (ht : Ts w v l) (hz : (jpre (l.map Tk.text)).length ≤ 70368744177664) :
    Calls Tryd.prog 17 #[v] w fun r w' => r = .returned (.string ⟨(jpre (l.map Tk.text)).toArray⟩) ∧ Below w.heap.size w w' := by
  obtain ⟨ao, cap, rfl, hn0⟩ := ht.parts
  have HT := hide ht
  have HZ := hide hz
  clear ht hz
  obtain ⟨n, hn⟩ : ∃ n, l.length = n := ⟨_, rfl⟩
  have HN := hide hn
  rw [hn] at hn0 ⊢
  simp only [hn] at HT
  clear hn
  go_enter Tryd.func17, Tryd.ntmps17
  go_wp2_with fail
  have hb0 : Bld (w.alloc (.cells #[.pointer none, .slice none 0 0] 72)) w.heap.size w.heap.size [] := Lib.IsBuilderF.of (Lib.fresh_isBuilder 72 5 w)
  have hbw : Below w.heap.size w (w.alloc (.cells #[.pointer none, .slice none 0 0] 72)) := (Below.refl _ _).alloc (Nat.le_refl _) _
  have hsz : w.heap.size < (w.alloc (.cells #[.pointer none, .slice none 0 0] 72)).heap.size := by rw [World.size_alloc]; omega
  generalize w.alloc (.cells #[.pointer none, .slice none 0 0] 72) = w0 at hb0 hbw hsz ⊢
  have HB0 := hide hb0
  have HBW := hide hbw
  clear hb0 hbw
  go_loopw [8] (fun iv wr => ∃ (i : Nat), iv = .int .i64 i ∧ i ≤ n ∧ Bld wr w.heap.size w.heap.size (jpre ((l.map Tk.text).take i)) ∧ Below w.heap.size w wr ∧ w.heap.size < wr.heap.size) (fun iv _ => n - (intOf iv).toNat)
  case atStart => exact ⟨0, rfl, Nat.zero_le _, by simpa [jpre] using HB0.out, HBW.out, hsz⟩
  case round =>
    clear HB0 HBW hsz
    obtain ⟨i, rfl, hi, hB, hbw, hsz⟩ := hrel
    have HB := hide hB
    have HW := hide hbw
    clear hB
    by_cases hlt : i < n
    · have h1 : l[i]? = some (l[i]'(by rw [HN.out]; exact hlt)) := List.getElem?_eq_getElem _
      obtain ⟨b, off, rfl, g⟩ := HT.out.tok h1
      have hst : (l.map Tk.text).take (i + 1) = (l.map Tk.text).take i ++ [(l[i]'(by rw [HN.out]; exact hlt)).text] := by
        rw [List.take_add_one, List.getElem?_map, h1]; rfl
      generalize l[i]'(by rw [HN.out]; exact hlt) = t at h1 g hst
      have hle := jpre_le (l.map Tk.text) (i + 1)
      have hz := HZ.out
      have hnl : (l.map Tk.text).take i = [] ↔ i = 0 := by
        constructor
        · intro h
          have := congrArg List.length h
          simp at this
          rcases this with h | h
          · exact h
          · rw [h] at h1; simp at h1
        · rintro rfl; rfl
      rw [hst, jpre_snoc] at hle
      have HST := hide hst
      generalize hJ : jpre ((l.map Tk.text).take i) = J at hle HB
      obtain ⟨_, a0, a1, a2, a3, a4, a5⟩ := g.below hbw
      have hlt' : (i : Int) < (n : Int) := by omega
      have HSX : Hid (t.text.size = t.text.data.toList.length) := rfl
      clear g h1 hbw hst
      by_cases h0 : i = 0
      · have hi0 : decide ((0 : Int) < (i : Int)) = false := by simp; omega
        have hi1 : decide (0 < i) = false := by simp; omega
        have H0 := hide h0
        rw [if_pos (hnl.2 h0), List.append_nil] at hle
        have HLE := hide hle
        clear h0 hle
        go_wp2_with fail
        have hTk : TkB (wr.alloc (.cells #[.int .i64 t.kind, .string t.text, .int .i64 t.pl.b, .int .i64 t.pl.g, .int .i64 t.pl.l, .int .i64 t.pl.c] 35)) wr.heap.size t := heap_alloc_new wr _
        have hB1 : Bld (wr.alloc (.cells #[.int .i64 t.kind, .string t.text, .int .i64 t.pl.b, .int .i64 t.pl.g, .int .i64 t.pl.l, .int .i64 t.pl.c] 35)) w.heap.size w.heap.size J := Lib.IsBuilderF.alloc HB.out _
        have hW1 : Below w.heap.size w (wr.alloc (.cells #[.int .i64 t.kind, .string t.text, .int .i64 t.pl.b, .int .i64 t.pl.g, .int .i64 t.pl.l, .int .i64 t.pl.c] 35)) := HW.out.alloc HW.out.size _
        have hs1 : w.heap.size < (wr.alloc (.cells #[.int .i64 t.kind, .string t.text, .int .i64 t.pl.b, .int .i64 t.pl.g, .int .i64 t.pl.l, .int .i64 t.pl.c] 35)).heap.size := by rw [World.size_alloc]; omega
        generalize wr.alloc (.cells #[.int .i64 t.kind, .string t.text, .int .i64 t.pl.b, .int .i64 t.pl.g, .int .i64 t.pl.l, .int .i64 t.pl.c] 35) = w1 at hTk hB1 hW1 hs1 ⊢
        generalize hf : wr.heap.size = f at hTk ⊢
        have HTk := hide hTk
        have HB1 := hide hB1
        have HW1 := hide hW1
        have hfne : f ≠ w.heap.size := by omega
        clear hTk hB1 hW1 a0 a1 a2 a3 a4 a5 HB HW hf
        have c1 : w1.cell? ⟨f, 1, none⟩ = some (.string t.text) := by rw [cell_of_row w1 f 1 _ _ _ HTk.out]; rfl
        go_wp2_with fail
        refine (bwstr w.heap.size w.heap.size J t.text w1 HB1.out (by have := HSX.out; have hle := HLE.out; rw [List.length_append] at hle; omega) (by omega)).mono ?_
        rintro r w2 ⟨rfl, hB2, hb2, hk2⟩
        have HB2 := hide hB2
        have HW2 := hide (HW1.out.trans (hb2.mono (Nat.le_refl _)))
        have hs2 : w.heap.size < w2.heap.size := Nat.lt_of_lt_of_le hs1 hb2.size
        clear hB2 hb2 hk2
        go_wp2
        go_roundw
        case rel => exact ⟨i + 1, by go_num, by omega, by rw [HST.out, jpre_snoc, if_pos (hnl.2 H0.out), List.append_nil, hJ]; exact HB2.out, HW2.out, hs2⟩
        case measure => simp [intOf]; omega
      · have hi0 : (0 : Int) < (i : Int) := by omega
        rw [if_neg (fun h => h0 (hnl.1 h))] at hle
        simp only [List.length_append, List.length_cons, List.length_nil] at hle
        have HLE := hide hle
        clear hle
        go_wp2_with fail
        have hTk : TkB (wr.alloc (.cells #[.int .i64 t.kind, .string t.text, .int .i64 t.pl.b, .int .i64 t.pl.g, .int .i64 t.pl.l, .int .i64 t.pl.c] 35)) wr.heap.size t := heap_alloc_new wr _
        have hB1 : Bld (wr.alloc (.cells #[.int .i64 t.kind, .string t.text, .int .i64 t.pl.b, .int .i64 t.pl.g, .int .i64 t.pl.l, .int .i64 t.pl.c] 35)) w.heap.size w.heap.size J := Lib.IsBuilderF.alloc HB.out _
        have hW1 : Below w.heap.size w (wr.alloc (.cells #[.int .i64 t.kind, .string t.text, .int .i64 t.pl.b, .int .i64 t.pl.g, .int .i64 t.pl.l, .int .i64 t.pl.c] 35)) := HW.out.alloc HW.out.size _
        have hs1 : w.heap.size < (wr.alloc (.cells #[.int .i64 t.kind, .string t.text, .int .i64 t.pl.b, .int .i64 t.pl.g, .int .i64 t.pl.l, .int .i64 t.pl.c] 35)).heap.size := by rw [World.size_alloc]; omega
        generalize wr.alloc (.cells #[.int .i64 t.kind, .string t.text, .int .i64 t.pl.b, .int .i64 t.pl.g, .int .i64 t.pl.l, .int .i64 t.pl.c] 35) = w1 at hTk hB1 hW1 hs1 ⊢
        generalize hf : wr.heap.size = f at hTk ⊢
        have HTk := hide hTk
        have HB1 := hide hB1
        have HW1 := hide hW1
        have hfne : f ≠ w.heap.size := by omega
        clear hTk hB1 hW1 a0 a1 a2 a3 a4 a5 HB HW hf
        refine (bwbyte w.heap.size w.heap.size J 32 32 rfl w1 HB1.out (by have := HLE.out; omega) (by omega)).mono ?_
        rintro r w2 ⟨rfl, hB2, hb2, hk2⟩
        have HB2 := hide hB2
        have HW2 := hide (HW1.out.trans (hb2.mono (Nat.le_refl _)))
        have hs2 : w.heap.size < w2.heap.size := Nat.lt_of_lt_of_le hs1 hb2.size
        have hTk2 : TkB w2 f t := hk2 f _ HTk.out (fun e1 => hfne (Option.some.inj e1)) (fun _ _ e1 => by cases e1)
        have c1 : w2.cell? ⟨f, 1, none⟩ = some (.string t.text) := by rw [cell_of_row w2 f 1 _ _ _ hTk2]; rfl
        clear hB2 hb2 hk2 hTk2
        go_wp2_with fail
        refine (bwstr w.heap.size w.heap.size (J ++ [32]) t.text w2 HB2.out (by have := HSX.out; have := HLE.out; rw [List.length_append, List.length_singleton]; omega) (by omega)).mono ?_
        rintro r w3 ⟨rfl, hB3, hb3, hk3⟩
        have HB3 := hide hB3
        have HW3 := hide (HW2.out.trans (hb3.mono (Nat.le_refl _)))
        have hs3 : w.heap.size < w3.heap.size := Nat.lt_of_lt_of_le hs2 hb3.size
        clear hB3 hb3 hk3
        go_wp2
        go_roundw
        case rel => exact ⟨i + 1, by go_num, by omega, by rw [HST.out, jpre_snoc, if_neg (fun h => h0 (hnl.1 h)), hJ]; exact HB3.out, HW3.out, hs3⟩
        case measure => simp [intOf]; omega
    · have hlt' : decide ((i : Int) < (n : Int)) = false := by simp; omega
      have hin : i = n := by omega
      have hta : (l.map Tk.text).take i = l.map Tk.text := by rw [List.take_of_length_le]; simp; have := HN.out; omega
      rw [hta] at HB
      clear hbw hta
      go_wp2_with fail
      refine (bstring w.heap.size w.heap.size _ wr HB.out (by omega)).mono ?_
      rintro r w2 ⟨rfl, hb2⟩
      go_wp2
      go_ret
      exact ⟨by rfl, HW.out.trans hb2⟩
end Lm
end Go.Proofs.YtgfglefgpgckiaaDoor

namespace Go.Proofs.YtgfglefgpgckiaaDoor
namespace Lm
open Go Go.RowKit
structure RtS (w W : World) (q F : Nat) (s : ByteArray) (p p' : Pl) (t : Tk) : Prop where
  rdr : Rdr W q s p'
  z2 : Tk0B W F
  z4 : PlB W (F + 1) plz
  h5 : PlB W (F + 1 + 1) p
  h6 : TkB W (F + 1 + 1 + 1) t
  tq : Tq w W q
  hq : q < F
  hF : w.heap.size ≤ F
theorem RtS.below {w W W' : World} {q F : Nat} {s : ByteArray} {p p' : Pl} {t : Tk} (h : RtS w W q F s p p' t) (hb : Below W.heap.size W W') : RtS w W' q F s p p' t :=
  ⟨h.rdr.below hb, h.z2.below hb, h.z4.below hb, h.h5.below hb, (hb.block _ (lt_of_heap h.h6)).trans h.h6, h.tq.trans (.of_below hb), h.hq, h.hF⟩
theorem RtS.move {w W W' : World} {q F : Nat} {s : ByteArray} {p p' p2 : Pl} {t : Tk} (h : RtS w W q F s p p' t) (ht : Tq W W' q) (hr : Rdr W' q s p2) : RtS w W' q F s p p2 t :=
  ⟨hr, h.z2.tq ht (by have := h.hq; omega), h.z4.tq ht (by have := h.hq; omega), h.h5.tq ht (by have := h.hq; omega), (ht.other _ (lt_of_heap h.h6) (by have := h.hq; omega)).trans h.h6, h.tq.trans ht, h.hq, h.hF⟩
theorem RtS.kind {w W : World} {q F : Nat} {s : ByteArray} {p p' : Pl} {t : Tk} (h : RtS w W q F s p p' t) (k : Int) : RtS w (W.setCell ⟨F + 1 + 1 + 1, 0, none⟩ (.int .i64 k)) q F s p p' ⟨k, t.text, t.pl⟩ := by
  have hq := h.hq
  refine ⟨(heap_setCell_other _ _ _ _ (by show q ≠ F + 1 + 1 + 1; omega)).trans h.rdr, (heap_setCell_other _ _ _ _ (by show F ≠ F + 1 + 1 + 1; omega)).trans h.z2, (heap_setCell_other _ _ _ _ (by show F + 1 ≠ F + 1 + 1 + 1; omega)).trans h.z4, (heap_setCell_other _ _ _ _ (by show F + 1 + 1 ≠ F + 1 + 1 + 1; omega)).trans h.h5, ?_, h.tq.setNew (by have := h.hF; omega) 0 _, hq, h.hF⟩
  unfold TkB
  rw [heap_setCell_same _ _ 0 _ _ _ h.h6]
  rfl
theorem RtS.text {w W : World} {q F : Nat} {s : ByteArray} {p p' : Pl} {t : Tk} (h : RtS w W q F s p p' t) (x : ByteArray) : RtS w (W.setCell ⟨F + 1 + 1 + 1, 1, none⟩ (.string x)) q F s p p' ⟨t.kind, x, t.pl⟩ := by
  have hq := h.hq
  refine ⟨(heap_setCell_other _ _ _ _ (by show q ≠ F + 1 + 1 + 1; omega)).trans h.rdr, (heap_setCell_other _ _ _ _ (by show F ≠ F + 1 + 1 + 1; omega)).trans h.z2, (heap_setCell_other _ _ _ _ (by show F + 1 ≠ F + 1 + 1 + 1; omega)).trans h.z4, (heap_setCell_other _ _ _ _ (by show F + 1 + 1 ≠ F + 1 + 1 + 1; omega)).trans h.h5, ?_, h.tq.setNew (by have := h.hF; omega) 1 _, hq, h.hF⟩
  unfold TkB
  rw [heap_setCell_same _ _ 1 _ _ _ h.h6]
  rfl
structure RtC (W : World) (F : Nat) (p : Pl) (t : Tk) : Prop where
  a0 : W.cell? ⟨F, 0, none⟩ = some (.int .i64 0)
  a1 : W.cell? ⟨F, 1, none⟩ = some (.string ⟨#[]⟩)
  a2 : W.cell? ⟨F, 2, none⟩ = some (.int .i64 0)
  a3 : W.cell? ⟨F, 3, none⟩ = some (.int .i64 0)
  a4 : W.cell? ⟨F, 4, none⟩ = some (.int .i64 0)
  a5 : W.cell? ⟨F, 5, none⟩ = some (.int .i64 0)
  b0 : W.cell? ⟨F + 1, 0, none⟩ = some (.int .i64 0)
  b1 : W.cell? ⟨F + 1, 1, none⟩ = some (.int .i64 0)
  b2 : W.cell? ⟨F + 1, 2, none⟩ = some (.int .i64 0)
  b3 : W.cell? ⟨F + 1, 3, none⟩ = some (.int .i64 0)
  c0 : W.cell? ⟨F + 1 + 1, 0, none⟩ = some (.int .i64 p.b)
  c1 : W.cell? ⟨F + 1 + 1, 1, none⟩ = some (.int .i64 p.g)
  c2 : W.cell? ⟨F + 1 + 1, 2, none⟩ = some (.int .i64 p.l)
  c3 : W.cell? ⟨F + 1 + 1, 3, none⟩ = some (.int .i64 p.c)
  d0 : W.cell? ⟨F + 1 + 1 + 1, 0, none⟩ = some (.int .i64 t.kind)
  d1 : W.cell? ⟨F + 1 + 1 + 1, 1, none⟩ = some (.string t.text)
  d2 : W.cell? ⟨F + 1 + 1 + 1, 2, none⟩ = some (.int .i64 t.pl.b)
  d3 : W.cell? ⟨F + 1 + 1 + 1, 3, none⟩ = some (.int .i64 t.pl.g)
  d4 : W.cell? ⟨F + 1 + 1 + 1, 4, none⟩ = some (.int .i64 t.pl.l)
  d5 : W.cell? ⟨F + 1 + 1 + 1, 5, none⟩ = some (.int .i64 t.pl.c)
  x0 : W.frozen? ⟨F, 0, none⟩ = false
  x1 : W.frozen? ⟨F, 1, none⟩ = false
  x2 : W.frozen? ⟨F, 2, none⟩ = false
  x3 : W.frozen? ⟨F, 3, none⟩ = false
  x4 : W.frozen? ⟨F, 4, none⟩ = false
  x5 : W.frozen? ⟨F, 5, none⟩ = false
  y0 : W.frozen? ⟨F + 1, 0, none⟩ = false
  y1 : W.frozen? ⟨F + 1, 1, none⟩ = false
  y2 : W.frozen? ⟨F + 1, 2, none⟩ = false
  y3 : W.frozen? ⟨F + 1, 3, none⟩ = false
  v0 : W.frozen? ⟨F + 1 + 1 + 1, 0, none⟩ = false
  v1 : W.frozen? ⟨F + 1 + 1 + 1, 1, none⟩ = false
theorem RtS.cells {w W : World} {q F : Nat} {s : ByteArray} {p p' : Pl} {t : Tk} (h : RtS w W q F s p p' t) : RtC W F p t := by
  obtain ⟨_, t0, t1, t2, t3, t4, t5, f0, f1, f2, f3, f4, f5⟩ := h.z2.cells
  obtain ⟨_, b0, b1, b2, b3⟩ := h.z4.cells
  obtain ⟨_, c0, c1, c2, c3⟩ := h.h5.cells
  exact ⟨t0, t1, t2, t3, t4, t5, b0, b1, b2, b3, c0, c1, c2, c3,
    by rw [cell_of_row W (F + 1 + 1 + 1) 0 _ _ _ h.h6]; rfl, by rw [cell_of_row W (F + 1 + 1 + 1) 1 _ _ _ h.h6]; rfl, by rw [cell_of_row W (F + 1 + 1 + 1) 2 _ _ _ h.h6]; rfl, by rw [cell_of_row W (F + 1 + 1 + 1) 3 _ _ _ h.h6]; rfl, by rw [cell_of_row W (F + 1 + 1 + 1) 4 _ _ _ h.h6]; rfl, by rw [cell_of_row W (F + 1 + 1 + 1) 5 _ _ _ h.h6]; rfl,
    f0, f1, f2, f3, f4, f5, frozen_of_row W (F + 1) 0 _ _ h.z4, frozen_of_row W (F + 1) 1 _ _ h.z4, frozen_of_row W (F + 1) 2 _ _ h.z4, frozen_of_row W (F + 1) 3 _ _ h.z4, frozen_of_row W (F + 1 + 1 + 1) 0 _ _ h.h6, frozen_of_row W (F + 1 + 1 + 1) 1 _ _ h.h6⟩
structure RtE (w W : World) (q F : Nat) (s : ByteArray) (p p' : Pl) (t : Tk) : Prop where
  rdr : Rdr W q s p'
  tok : TkB W F t
  pla : PlB W (F + 1) p
  tq : Tq w W q
theorem RtS.fin {w W : World} {q F : Nat} {s : ByteArray} {p p' : Pl} {t : Tk} (h : RtS w W q F s p p' t) :
    RtE w ((((((((((W.setCell ⟨F, 0, none⟩ (.int .i64 t.kind)).setCell ⟨F, 1, none⟩ (.string t.text)).setCell ⟨F, 2, none⟩ (.int .i64 t.pl.b)).setCell ⟨F, 3, none⟩ (.int .i64 t.pl.g)).setCell ⟨F, 4, none⟩ (.int .i64 t.pl.l)).setCell ⟨F, 5, none⟩ (.int .i64 t.pl.c)).setCell ⟨F + 1, 0, none⟩ (.int .i64 p.b)).setCell ⟨F + 1, 1, none⟩ (.int .i64 p.g)).setCell ⟨F + 1, 2, none⟩ (.int .i64 p.l)).setCell ⟨F + 1, 3, none⟩ (.int .i64 p.c)) q F s p p' t := by
  have hq := h.hq
  have hF := h.hF
  have hother : ∀ k (u : Obj), k ≠ F → k ≠ F + 1 → W.heap[k]? = some u → ((((((((((W.setCell ⟨F, 0, none⟩ (.int .i64 t.kind)).setCell ⟨F, 1, none⟩ (.string t.text)).setCell ⟨F, 2, none⟩ (.int .i64 t.pl.b)).setCell ⟨F, 3, none⟩ (.int .i64 t.pl.g)).setCell ⟨F, 4, none⟩ (.int .i64 t.pl.l)).setCell ⟨F, 5, none⟩ (.int .i64 t.pl.c)).setCell ⟨F + 1, 0, none⟩ (.int .i64 p.b)).setCell ⟨F + 1, 1, none⟩ (.int .i64 p.g)).setCell ⟨F + 1, 2, none⟩ (.int .i64 p.l)).setCell ⟨F + 1, 3, none⟩ (.int .i64 p.c)).heap[k]? = some u := by
    intro k u h1 h2 he
    rw [heap_setCell_other _ ⟨F + 1, 3, none⟩ k _ h2, heap_setCell_other _ ⟨F + 1, 2, none⟩ k _ h2, heap_setCell_other _ ⟨F + 1, 1, none⟩ k _ h2, heap_setCell_other _ ⟨F + 1, 0, none⟩ k _ h2, six_other _ _ _ h1]
    exact he
  refine ⟨hother q _ (by omega) (by omega) h.rdr, ?_, ?_, ?_⟩
  · unfold TkB
    have hne : F ≠ F + 1 := by omega
    rw [heap_setCell_other _ ⟨F + 1, 3, none⟩ F _ hne, heap_setCell_other _ ⟨F + 1, 2, none⟩ F _ hne, heap_setCell_other _ ⟨F + 1, 1, none⟩ F _ hne, heap_setCell_other _ ⟨F + 1, 0, none⟩ F _ hne]
    rw [heap_setCell_same _ _ 5 _ _ _ (heap_setCell_same _ _ 4 _ _ _ (heap_setCell_same _ _ 3 _ _ _ (heap_setCell_same _ _ 2 _ _ _ (heap_setCell_same _ _ 1 _ _ _ (heap_setCell_same _ _ 0 _ _ _ h.z2)))))]
    simp
  · refine plB_fill (p := plz) (p' := p) ?_
    unfold PlB
    rw [six_other _ _ _ (show F + 1 ≠ F by omega)]
    exact h.z4
  · exact ((((h.tq.six hF _ _ _ _ _ _).setNew (by omega) 0 _).setNew (by omega) 1 _).setNew (by omega) 2 _).setNew (by omega) 3 _
theorem RtE.drew {w W : World} {q F : Nat} {s : ByteArray} {p p' : Pl} {t : Tk} (h : RtE w W q F s p p' t) : RtE w W.drew q F s p p' t :=
  ⟨h.rdr, h.tok, h.pla, h.tq.trans ⟨rfl, rfl, rfl, Nat.le_refl _, fun _ _ _ => rfl⟩⟩
def Tk.v (t : Tk) : Value := .agg #[.int .i64 t.kind, .string t.text, .int .i64 t.pl.b, .int .i64 t.pl.g, .int .i64 t.pl.l, .int .i64 t.pl.c]
theorem RtE.vals {w W : World} {q F : Nat} {s : ByteArray} {p p' : Pl} {t : Tk} (h : RtE w W q F s p p' t) : (W.cell? ⟨F, 0, none⟩ = some (.int .i64 t.kind) ∧ W.cell? ⟨F, 1, none⟩ = some (.string t.text) ∧ W.cell? ⟨F, 2, none⟩ = some (.int .i64 t.pl.b) ∧ W.cell? ⟨F, 3, none⟩ = some (.int .i64 t.pl.g) ∧ W.cell? ⟨F, 4, none⟩ = some (.int .i64 t.pl.l) ∧ W.cell? ⟨F, 5, none⟩ = some (.int .i64 t.pl.c)) ∧ W.cell? ⟨F + 1, 0, none⟩ = some (.int .i64 p.b) ∧ W.cell? ⟨F + 1, 1, none⟩ = some (.int .i64 p.g) ∧ W.cell? ⟨F + 1, 2, none⟩ = some (.int .i64 p.l) ∧ W.cell? ⟨F + 1, 3, none⟩ = some (.int .i64 p.c) := by
  obtain ⟨_, b0, b1, b2, b3⟩ := h.pla.cells
  exact ⟨⟨by rw [cell_of_row W F 0 _ _ _ h.tok]; rfl, by rw [cell_of_row W F 1 _ _ _ h.tok]; rfl, by rw [cell_of_row W F 2 _ _ _ h.tok]; rfl, by rw [cell_of_row W F 3 _ _ _ h.tok]; rfl, by rw [cell_of_row W F 4 _ _ _ h.tok]; rfl, by rw [cell_of_row W F 5 _ _ _ h.tok]; rfl⟩, b0, b1, b2, b3⟩
def RtO (w' : World) (q : Nat) (s : ByteArray) (e p : Pl) (r : Ending) : TO → Prop
  | .bad k => ∃ t : Tk, r = .returned (.tuple #[t.v, .int .i64 k, p.v])
  | .ok kind text rest => r = .returned (.tuple #[Tk.v ⟨kind, text, p⟩, .int .i64 0, p.v]) ∧ ∃ p', Rdr w' q s p' ∧ Snd s p' rest e ∧ p'.ok ∧ p'.b ≤ s.size
theorem rts_begin (w : World) (q : Nat) (s : ByteArray) (p : Pl) (h : Rdr w q s p) : RtS w ((((w.alloc (.cells #[.int .i64 0, .string ⟨#[]⟩, .int .i64 0, .int .i64 0, .int .i64 0, .int .i64 0] 35)).alloc (.cells #[.int .i64 0, .int .i64 0, .int .i64 0, .int .i64 0] 25)).alloc (.cells #[.int .i64 p.b, .int .i64 p.g, .int .i64 p.l, .int .i64 p.c] 25)).alloc (.cells #[.int .i64 0, .string ⟨#[]⟩, .int .i64 p.b, .int .i64 p.g, .int .i64 p.l, .int .i64 p.c] 35)) q w.heap.size s p p ⟨0, ⟨#[]⟩, p⟩ := by
  generalize hw1 : w.alloc (.cells #[.int .i64 0, .string ⟨#[]⟩, .int .i64 0, .int .i64 0, .int .i64 0, .int .i64 0] 35) = w1
  have s1 : w1.heap.size = w.heap.size + 1 := by rw [← hw1, World.size_alloc]
  have z1 : Tk0B w1 w.heap.size := by rw [← hw1]; exact heap_alloc_new w _
  have b1 : Below w.heap.size w w1 := by rw [← hw1]; exact (Below.refl _ _).alloc (Nat.le_refl _) _
  generalize hw2 : w1.alloc (.cells #[.int .i64 0, .int .i64 0, .int .i64 0, .int .i64 0] 25) = w2
  have s2 : w2.heap.size = w.heap.size + 2 := by rw [← hw2, World.size_alloc, s1]
  have z2 : PlB w2 (w.heap.size + 1) plz := by rw [← hw2, ← s1]; exact heap_alloc_new w1 _
  have b2 : Below w1.heap.size w1 w2 := by rw [← hw2]; exact (Below.refl _ _).alloc (Nat.le_refl _) _
  generalize hw3 : w2.alloc (.cells #[.int .i64 p.b, .int .i64 p.g, .int .i64 p.l, .int .i64 p.c] 25) = w3
  have s3 : w3.heap.size = w.heap.size + 3 := by rw [← hw3, World.size_alloc, s2]
  have z3 : PlB w3 (w.heap.size + 1 + 1) p := by rw [← hw3, ← s2]; exact heap_alloc_new w2 _
  have b3 : Below w2.heap.size w2 w3 := by rw [← hw3]; exact (Below.refl _ _).alloc (Nat.le_refl _) _
  have b4 : Below w3.heap.size w3 (w3.alloc (.cells #[.int .i64 0, .string ⟨#[]⟩, .int .i64 p.b, .int .i64 p.g, .int .i64 p.l, .int .i64 p.c] 35)) := (Below.refl _ _).alloc (Nat.le_refl _) _
  have z4 : TkB (w3.alloc (.cells #[.int .i64 0, .string ⟨#[]⟩, .int .i64 p.b, .int .i64 p.g, .int .i64 p.l, .int .i64 p.c] 35)) (w.heap.size + 1 + 1 + 1) ⟨0, ⟨#[]⟩, p⟩ := by rw [← s3]; exact heap_alloc_new w3 _
  exact ⟨(((h.below b1).below b2).below b3).below b4, ((z1.below b2).below b3).below b4, (z2.below b3).below b4, z3.below b4, z4, (((Tq.of_below b1).trans (.of_below b2)).trans (.of_below b3)).trans (.of_below b4), lt_of_heap h, Nat.le_refl _⟩
theorem enters_bare (args : Array Value) (w : World) : (callFunc 44 args).run Tryd.prog w = .ok (.enter 44 args) w := by
  have h : (match Tryd.prog.funcs[44]? with | some fn => !(fn.name == "runtime.NumGoroutine") && fn.body.isSome | none => false) = true := by kernel_rfl
  cases hf : Tryd.prog.funcs[44]? with
  | none => rw [hf] at h; simp at h
  | some fn =>
    rw [hf] at h
    simp only [Bool.and_eq_true, Bool.not_eq_true', beq_eq_false_iff_ne] at h
    obtain ⟨h1, h2⟩ := h
    have h3 : fn.body ≠ none := by intro hb; rw [hb] at h2; simp at h2
    simp [callFunc, hf, h1, h3]
theorem step_bare {ops : Array Oper} {o : Oper} {a : Act} {w : World} {K : Act → World → Prop} {Q : Exit → Act → World → Prop} {E : Prop} (hg : o.guard = none) (x : Operand) (ats : Array TypeId)
    (hop : o.op = .call { callee := .value (.func 44), args := #[x], argTypes := ats }) (c y : ByteArray) (hx : a.eval x = .string c) (hB : ∀ W, Calls Tryd.prog 44 #[.string c] W fun e w' => e = .returned (.string y) ∧ w' = W) (hK : K (a.put o.dst (.string y)) w) :
    if Region.wanted o (yielded ops a.tmps) = true then Oper.wp Tryd.prog o a w K Q else E := by
  obtain ⟨dst, op, ty, pos, after, guard⟩ := o
  simp only at hop hg
  subst hop hg
  have hw : Region.wanted { dst, op := .call { callee := .value (.func 44), args := #[x], argTypes := ats }, type := ty, pos, after, guard := none } (yielded ops a.tmps) = true := by simp [Region.wanted]
  rw [if_pos hw]
  have e : execOp a.eval { dst, op := .call { callee := .value (.func 44), args := #[x], argTypes := ats }, type := ty, pos, after, guard := none } = callFunc 44 (#[] ++ #[x].map a.eval ++ #[]) := rfl
  unfold Oper.wp
  rw [e, enters_bare]
  simp only [Oper.upon]
  have e2 : (#[] ++ #[x].map a.eval ++ #[] : Array Value) = #[.string c] := by simp [hx]
  rw [e2]
  refine (hB w).mono ?_
  rintro r w' ⟨rfl, rfl⟩
  exact hK
theorem canon_nat (n : Nat) : ∃ rs, Canon rs ∧ val rs = (n : Int) := by
  induction n using Nat.strongRecOn with
  | _ n ih =>
    by_cases h : n = 0
    · subst h; exact ⟨[], canon_nil, rfl⟩
    · obtain ⟨rs, hc, hv⟩ := ih (n / 4294967296) (by omega)
      refine ⟨((n % 4294967296 : Nat) : Int) :: rs, ⟨?_, ?_⟩, ?_⟩
      · intro z hz
        rcases List.mem_cons.1 hz with rfl | hz
        · omega
        · exact hc.1 z hz
      · have h1 := hc.2
        rw [tl]
        cases rs with
        | nil =>
          simp only [val] at hv
          simp only [tl, List.length_nil, List.length_cons]
          simp
          omega
        | cons z zs =>
          rw [h1]
          simp
      · rw [val, hv]; omega
theorem dec_short {xs ds : List Int} (hx : Dig xs) (hd : IsDec ds (dval xs)) (h0 : 0 < xs.length) : ds.length ≤ xs.length := by
  obtain ⟨h1, h2, h3⟩ := hd
  rcases h3 with ⟨_, rfl⟩ | ⟨c, cs, rfl, hc0⟩
  · simp; omega
  · have hcd := (dig_cons.1 h1).1
    have hb := dval_bounds (dig_cons.1 h1).2
    have hlow : p10 cs.length ≤ dval xs := by
      rw [← h2, dval]
      have : p10 cs.length * 1 ≤ (c - 48) * p10 cs.length := by
        rw [Int.mul_comm]
        exact Int.mul_le_mul_of_nonneg_right (by omega) (by have := p10_mono (m := 0) (n := cs.length) (Nat.zero_le _); simp [p10] at this; omega)
      omega
    have hup := (dval_bounds hx).2
    apply Classical.byContradiction
    intro hn
    have := p10_mono (m := xs.length) (n := cs.length) (by simp at hn; omega)
    omega
theorem RtS.drew {w W : World} {q F : Nat} {s : ByteArray} {p p' : Pl} {t : Tk} (h : RtS w W q F s p p' t) : RtS w W.drew q F s p p' t := h.below ((Below.refl _ _).drew)
theorem rt_ret {w W : World} {q F : Nat} {s : ByteArray} {p p' : Pl} {t : Tk} {post : Ending → World → Prop} {a : Act} (h : RtE w W q F s p p' t) (k : Int) (h2 : a.tmps[2]? = some (.pointer (some ⟨F, 0, none⟩))) (h3 : a.tmps[3]? = some (.int .i64 k)) (h4 : a.tmps[4]? = some (.pointer (some ⟨F + 1, 0, none⟩))) (hd : a.defers = []) (hQ : post (.returned (.tuple #[t.v, .int .i64 k, p.v])) W) : bodyPost Tryd.prog Tryd.f26 post Exit.ret a W := by
  obtain ⟨⟨e0, e1, e2, e3, e4, e5⟩, g0, g1, g2, g3⟩ := h.vals
  obtain ⟨tmps, defers⟩ := a
  simp only at h2 h3 h4 hd
  subst hd
  refine bodyPost_ret (v := .tuple #[t.v, .int .i64 k, p.v]) ?_ rfl hQ
  simp [results, Tryd.results26, go_sem, h2, h3, h4, e0, e1, e2, e3, e4, e5, g0, g1, g2, g3, Tk.v, Pl.v]
set_option maxRecDepth 20000 in
set_option maxHeartbeats 4000000 in
theorem rtoken_end (w : World) (q : Nat) (s : ByteArray) (p e : Pl) (h : Rdr w q s p) (hm : s.size ≤ 4096) (hQ : Snd s p [] e) (hb : s.size ≤ e.b) :
    Calls Tryd.prog 26 #[.pointer (some ⟨q, 0, none⟩)] w fun r w' => Tq w w' q ∧ r = .returned (.tuple #[Tk.v ⟨0, ⟨#[]⟩, p⟩, .int .i64 0, p.v]) ∧ Rdr w' q s p := by
  have hl := (look_end hQ).2.1 hb
  clear hQ
  have HS0 := hide (rts_begin w q s p h)
  obtain ⟨hq, k0, k1, k2, k3, k4, f1, f2, f3, f4⟩ := h.cells
  clear h
  go_enter Tryd.func26, Tryd.ntmps26
  go_wp2_with fail
  generalize ((((w.alloc (.cells #[.int .i64 0, .string ⟨#[]⟩, .int .i64 0, .int .i64 0, .int .i64 0, .int .i64 0] 35)).alloc (.cells #[.int .i64 0, .int .i64 0, .int .i64 0, .int .i64 0] 25)).alloc (.cells #[.int .i64 p.b, .int .i64 p.g, .int .i64 p.l, .int .i64 p.c] 25)).alloc (.cells #[.int .i64 0, .string ⟨#[]⟩, .int .i64 p.b, .int .i64 p.g, .int .i64 p.l, .int .i64 p.c] 35)) = W0 at HS0 ⊢
  clear k0 k1 k2 k3 k4 f1 f2 f3 f4 hq
  generalize w.heap.size = F at HS0 ⊢
  refine (look_any W0 q s p HS0.out.rdr (by omega)).mono ?_
  rintro r W1 ⟨rfl, hb1⟩
  rw [hl]
  have HS1 := hide (HS0.out.below hb1)
  clear hb1 HS0 hl
  obtain ⟨a0, a1, a2, a3, a4, a5, b0, b1, b2, b3, c0, c1, c2, c3, d0, d1, d2, d3, d4, d5, x0, x1, x2, x3, x4, x5, y0, y1, y2, y3, v0, v1⟩ := HS1.out.cells
  go_wp2_with fail
  go_region
  go_wp2
  exact rt_ret HS1.out.fin.drew 0 rfl rfl rfl rfl ⟨HS1.out.fin.drew.tq, rfl, HS1.out.fin.drew.rdr⟩
set_option maxRecDepth 20000 in
set_option maxHeartbeats 4000000 in
theorem rtoken_other (w : World) (q : Nat) (s : ByteArray) (p e : Pl) (g : Gl) (gs : List Gl) (h : Rdr w q s p) (hm : s.size ≤ 4096) (hQ : Snd s p (g :: gs) e) (h2 : gcls g.code ≠ 2) (h3 : gcls g.code ≠ 3) (h5 : gcls g.code ≠ 5) :
    Calls Tryd.prog 26 #[.pointer (some ⟨q, 0, none⟩)] w fun r w' => Tq w w' q ∧ RtO w' q s e p r (.bad 41) := by
  have hl := look_cons hQ
  have hg0 : 0 ≤ (g.code : Int) := by omega
  have n1 : ((g.code : Int) == -1) = false := beq_eq_false_iff_ne.2 (by omega)
  have HQ := hide hQ
  clear hQ
  have q2 : (gcls (g.code : Int) == 2) = false := beq_eq_false_iff_ne.2 h2
  have q3 : (gcls (g.code : Int) == 3) = false := beq_eq_false_iff_ne.2 h3
  have q5 : (gcls (g.code : Int) == 5) = false := beq_eq_false_iff_ne.2 h5
  clear h2 h3 h5
  have HS0 := hide (rts_begin w q s p h)
  obtain ⟨hq, k0, k1, k2, k3, k4, f1, f2, f3, f4⟩ := h.cells
  clear h
  go_enter Tryd.func26, Tryd.ntmps26
  go_wp2_with fail
  generalize ((((w.alloc (.cells #[.int .i64 0, .string ⟨#[]⟩, .int .i64 0, .int .i64 0, .int .i64 0, .int .i64 0] 35)).alloc (.cells #[.int .i64 0, .int .i64 0, .int .i64 0, .int .i64 0] 25)).alloc (.cells #[.int .i64 p.b, .int .i64 p.g, .int .i64 p.l, .int .i64 p.c] 25)).alloc (.cells #[.int .i64 0, .string ⟨#[]⟩, .int .i64 p.b, .int .i64 p.g, .int .i64 p.l, .int .i64 p.c] 35)) = W0 at HS0 ⊢
  clear k0 k1 k2 k3 k4 f1 f2 f3 f4 hq
  generalize w.heap.size = F at HS0 ⊢
  refine (look_any W0 q s p HS0.out.rdr (by omega)).mono ?_
  rintro r W1 ⟨rfl, hb1⟩
  rw [hl]
  have HS1 := hide (HS0.out.below hb1)
  clear hb1 HS0 hl
  obtain ⟨a0, a1, a2, a3, a4, a5, b0, b1, b2, b3, c0, c1, c2, c3, d0, d1, d2, d3, d4, d5, x0, x1, x2, x3, x4, x5, y0, y1, y2, y3, v0, v1⟩ := HS1.out.cells
  go_wp2_with (go_at_call 41; refine (rcls_any _ _).mono ?_; rintro r w' ⟨rfl, rfl⟩)
  go_region
  go_wp2
  exact rt_ret HS1.out.fin.drew 41 rfl rfl rfl rfl ⟨HS1.out.fin.drew.tq, _, rfl⟩
end Lm
end Go.Proofs.YtgfglefgpgckiaaDoor

namespace Go.Proofs.YtgfglefgpgckiaaDoor
namespace Lm
open Go Go.RowKit
set_option maxRecDepth 20000 in
set_option maxHeartbeats 4000000 in
theorem rtoken_name (w : World) (q : Nat) (s : ByteArray) (p e : Pl) (g : Gl) (gs : List Gl) (h : Rdr w q s p) (hm : s.size ≤ 4096) (hQ : Snd s p (g :: gs) e) (hok : p.ok) (hpb : p.b ≤ s.size) (h2 : gcls g.code = 2) :
    Calls Tryd.prog 26 #[.pointer (some ⟨q, 0, none⟩)] w fun r w' => Tq w w' q ∧ ∃ o, TokR s e g gs o ∧ RtO w' q s e p r o := by
  have hl := look_cons hQ
  have hg0 : 0 ≤ (g.code : Int) := by omega
  have n1 : ((g.code : Int) == -1) = false := beq_eq_false_iff_ne.2 (by omega)
  have HQ := hide hQ
  clear hQ
  have q2 : (gcls (g.code : Int) == 2) = true := by rw [h2]; rfl
  have HOK := hide hok
  have HP := hide HQ.out.tail.1
  have HC2 := hide h2
  clear h2 hok
  have HS0 := hide (rts_begin w q s p h)
  obtain ⟨hq, k0, k1, k2, k3, k4, f1, f2, f3, f4⟩ := h.cells
  clear h
  go_enter Tryd.func26, Tryd.ntmps26
  go_wp2_with fail
  generalize ((((w.alloc (.cells #[.int .i64 0, .string ⟨#[]⟩, .int .i64 0, .int .i64 0, .int .i64 0, .int .i64 0] 35)).alloc (.cells #[.int .i64 0, .int .i64 0, .int .i64 0, .int .i64 0] 25)).alloc (.cells #[.int .i64 p.b, .int .i64 p.g, .int .i64 p.l, .int .i64 p.c] 25)).alloc (.cells #[.int .i64 0, .string ⟨#[]⟩, .int .i64 p.b, .int .i64 p.g, .int .i64 p.l, .int .i64 p.c] 35)) = W0 at HS0 ⊢
  clear k0 k1 k2 k3 k4 f1 f2 f3 f4 hq
  generalize w.heap.size = F at HS0 ⊢
  refine (look_any W0 q s p HS0.out.rdr (by omega)).mono ?_
  rintro r W1 ⟨rfl, hb1⟩
  rw [hl]
  have HS1 := hide (HS0.out.below hb1)
  clear hb1 HS0 hl
  go_wp2_with (go_at_call 41; refine (rcls_any _ _).mono ?_; rintro r w' ⟨rfl, rfl⟩)
  go_loopw [] (fun wr => ∃ (p' : Pl) (gs' : List Gl), Snd s p' gs' e ∧ p'.ok ∧ p'.b ≤ s.size ∧ p.b ≤ p'.b ∧ (g :: gs).dropWhile (inC [2, 3, 4]) = gs'.dropWhile (inC [2, 3, 4]) ∧ p'.g + gs'.length = p.g + (g :: gs).length ∧ RtS w wr q F s p p' ⟨0, ⟨#[]⟩, p⟩) (fun wr => s.size - rpos wr q)
  case atStart => exact ⟨p, g :: gs, HQ.out, HOK.out, hpb, Nat.le_refl _, rfl, rfl, HS1.out⟩
  case round =>
    clear HS1
    obtain ⟨p', gs', hS, hok', hb', hpp, hdw, hcnt, hR⟩ := hrel
    have HS := hide hS
    have HO := hide hok'
    have HDW := hide hdw
    have HCN := hide hcnt
    have HR := hide hR
    have IP := hide hR.rdr.pos
    clear hok' hdw hcnt hR
    have hcase : (∃ g' gs'', gs' = g' :: gs'' ∧ inC [2, 3, 4] g' = true) ∨ (gs'.dropWhile (inC [2, 3, 4]) = gs' ∧ ¬ (0 ≤ lookS s p' ∧ (gcls (lookS s p') = 2 ∨ gcls (lookS s p') = 3 ∨ gcls (lookS s p') = 4))) := by
      cases gs' with
      | nil =>
        refine .inr ⟨rfl, ?_⟩
        have hle := look_end hS
        by_cases hbe : s.size ≤ e.b
        · rw [hle.2.1 hbe]; omega
        · rw [hle.2.2 (by omega)]; omega
      | cons g' gs'' =>
        by_cases hi : inC [2, 3, 4] g' = true
        · exact .inl ⟨g', gs'', rfl, hi⟩
        · refine .inr ⟨List.dropWhile_cons_of_neg hi, ?_⟩
          rw [look_cons hS]
          simp only [inC, List.mem_cons, List.not_mem_nil, or_false, decide_eq_true_eq] at hi
          omega
    rcases hcase with ⟨g', gs'', rfl, hi⟩ | ⟨hdrop, hno⟩
    · have hl' := look_cons hS
      obtain ⟨t1, t2, t3, t4, t5, t6⟩ := hS.tail
      clear hS
      have HN := hide (fun (W : World) (h : Rdr W q s p') => next_any W q s p' h (by omega) t2 HO.out t4)
      have hd := dec_le s p'.b t2
      have HO2 := hide (HO.out.past (Utf8.decode s p'.b).1 (Utf8.decode s p'.b).2 hd.1)
      have HS2 := hide t5
      have hpos : (p'.past (Utf8.decode s p'.b).1 (Utf8.decode s p'.b).2).b = p'.b + (Utf8.decode s p'.b).2 := rfl
      have hgl : (p'.past (Utf8.decode s p'.b).1 (Utf8.decode s p'.b).2).g = p'.g + 1 := rfl
      generalize p'.past (Utf8.decode s p'.b).1 (Utf8.decode s p'.b).2 = p2 at HN HO2 HS2 hpos hgl
      have hpos' : p'.b < p2.b ∧ p2.b ≤ s.size := by omega
      have hyes : decide (0 ≤ (g'.code : Int) ∧ (gcls (g'.code : Int) = 2 ∨ gcls (g'.code : Int) = 3 ∨ gcls (g'.code : Int) = 4)) = true := by
        simp only [inC, List.mem_cons, List.not_mem_nil, or_false, decide_eq_true_eq] at hi
        rw [decide_eq_true_eq]
        exact ⟨by omega, hi⟩
      have HD2 : Hid ((g :: gs).dropWhile (inC [2, 3, 4]) = gs''.dropWhile (inC [2, 3, 4])) := by
        show _ = _
        rw [HDW.out, List.dropWhile_cons_of_pos hi]
      have HC3 : Hid (p2.g + gs''.length = p.g + (g :: gs).length) := by
        show _ = _
        have := HCN.out
        simp only [List.length_cons] at this ⊢
        omega
      clear t1 t2 t3 t4 t5 t6 hd hpos hgl hi
      go_wp2_with fail
      refine (look_any wr q s p' HR.out.rdr (by omega)).mono ?_
      rintro r w2 ⟨rfl, hb2⟩
      rw [hl']
      replace HR := hide (HR.out.below hb2)
      clear hb2 hl'
      go_wp2_with fail
      refine (part_any _ _).mono ?_
      rintro r w3 ⟨rfl, rfl⟩
      rw [hyes]
      go_wp2_with fail
      refine (HN.out _ HR.out.rdr).mono ?_
      rintro r w4 ⟨rfl, ht4, hR4⟩
      have HR4 := hide (HR.out.move ht4 hR4)
      clear ht4 hR4
      go_wp2
      go_roundw
      case rel => exact ⟨p2, gs'', HS2.out, HO2.out, hpos'.2, by omega, HD2.out, HC3.out, HR4.out⟩
      case measure => rw [IP.out, HR4.out.rdr.pos]; omega
    · have hno' : decide (0 ≤ lookS s p' ∧ (gcls (lookS s p') = 2 ∨ gcls (lookS s p') = 3 ∨ gcls (lookS s p') = 4)) = false := by rw [decide_eq_false_iff_not]; exact hno
      have HDD := hide (HDW.out.trans hdrop)
      clear hno hdrop
      go_wp2_with fail
      refine (look_any wr q s p' HR.out.rdr (by omega)).mono ?_
      rintro r w2 ⟨rfl, hb2⟩
      replace HR := hide (HR.out.below hb2)
      clear hb2
      generalize lookS s p' = lk at hno' ⊢
      go_wp2_with fail
      refine (part_any _ _).mono ?_
      rintro r w3 ⟨rfl, rfl⟩
      rw [hno']
      clear hno'
      have hpl : plf gs' e = p' := hS.plf
      have HTX : Hid (s.extract g.pl.b (plf ((g :: gs).dropWhile (inC [2, 3, 4])) e).b = s.extract p.b p'.b) := by
        show _ = _
        rw [HDD.out, hpl, HP.out]
      clear hS hpl
      have HRK := hide (HR.out.kind 1)
      have dk0 := HR.out.cells.d0
      have dkv := HR.out.cells.v0
      go_wp2_with fail
      clear dk0 dkv
      generalize w3.setCell ⟨F + 1 + 1 + 1, 0, none⟩ (.int .i64 1) = wK at HRK ⊢
      obtain ⟨hq, k0, k1, k2, k3, k4, f1, f2, f3, f4⟩ := HRK.out.rdr.cells
      obtain ⟨a0, a1, a2, a3, a4, a5, b0, b1, b2, b3, c0, c1, c2, c3, d0, d1, d2, d3, d4, d5, x0, x1, x2, x3, x4, x5, y0, y1, y2, y3, v0, v1⟩ := HRK.out.cells
      have hpp' : (p.b : Int) ≤ (p'.b : Int) := by omega
      have hps : (p'.b : Int) ≤ (s.size : Int) := by omega
      go_region
      have HRT := hide ((HRK.out.text (s.extract p.b p'.b)).drew)
      simp only at HRT
      clear hq k0 k1 k2 k3 k4 f1 f2 f3 f4 a0 a1 a2 a3 a4 a5 b0 b1 b2 b3 c0 c1 c2 c3 d0 d1 d2 d3 d4 d5 x0 x1 x2 x3 x4 x5 y0 y1 y2 y3 v0 v1 HRK
      generalize (wK.setCell ⟨F + 1 + 1 + 1, 1, none⟩ (.string (s.extract p.b p'.b))).drew = wT at HRT ⊢
      obtain ⟨hq, k0, k1, k2, k3, k4, f1, f2, f3, f4⟩ := HRT.out.rdr.cells
      have c1 := HRT.out.cells.c1
      have hpg : p'.g ≤ 10000 := by
        have := (HRT.out.rdr)
        have h1 := HO.out.g
        omega
      have hpg2 : p.g ≤ 10000 := by have := HOK.out.g; omega
      by_cases h16 : 16 < p'.g - p.g
      · have h16' : (16 : Int) < (p'.g : Int) - (p.g : Int) := by omega
        go_wp2_with fail
        go_quiet (fail)
        have HRU := hide (HRT.out.below (gdrewN (Below.refl _ _) nq))
        clear hq k0 k1 k2 k3 k4 f1 f2 f3 f4 c1 HRT
        generalize wT.drewN nq = wU at HRU ⊢
        obtain ⟨a0, a1, a2, a3, a4, a5, b0, b1, b2, b3, c0, c1, c2, c3, d0, d1, d2, d3, d4, d5, x0, x1, x2, x3, x4, x5, y0, y1, y2, y3, v0, v1⟩ := HRU.out.cells
        go_wp2_with fail
        go_region
        go_wp2
        refine rt_ret HRU.out.fin.drew 42 rfl rfl rfl rfl ⟨HRU.out.fin.drew.tq, .bad 42, ?_, _, rfl⟩
        have := tokR_name (s := s) (e := e) (r := gs) HC2.out
        rw [HDD.out, if_pos (by have := HCN.out; omega)] at this
        exact this
      · have h16' : decide ((16 : Int) < (p'.g : Int) - (p.g : Int)) = false := by simp; omega
        go_wp2_with fail
        go_quiet (fail)
        have HRU := hide (HRT.out.below (gdrewN (Below.refl _ _) nq))
        clear hq k0 k1 k2 k3 k4 f1 f2 f3 f4 c1 HRT
        generalize wT.drewN nq = wU at HRU ⊢
        obtain ⟨a0, a1, a2, a3, a4, a5, b0, b1, b2, b3, c0, c1, c2, c3, d0, d1, d2, d3, d4, d5, x0, x1, x2, x3, x4, x5, y0, y1, y2, y3, v0, v1⟩ := HRU.out.cells
        go_wp2_with fail
        go_region
        go_wp2
        refine rt_ret HRU.out.fin.drew 0 rfl rfl rfl rfl ⟨HRU.out.fin.drew.tq, .ok 1 (s.extract p.b p'.b) gs', ?_, rfl, p', HRU.out.fin.drew.rdr, HS.out, HO.out, hb'⟩
        have := tokR_name (s := s) (e := e) (r := gs) HC2.out
        rw [HTX.out, HDD.out, if_neg (by have := HCN.out; omega)] at this
        exact this
end Lm
end Go.Proofs.YtgfglefgpgckiaaDoor

namespace Go.Proofs.YtgfglefgpgckiaaDoor
namespace Lm
open Go Go.RowKit
set_option maxRecDepth 20000 in
set_option maxHeartbeats 4000000 in
theorem rtoken_num (w : World) (q : Nat) (s : ByteArray) (p e : Pl) (g : Gl) (gs : List Gl) (h : Rdr w q s p) (hm : s.size ≤ 4096) (hQ : Snd s p (g :: gs) e) (hok : p.ok) (hpb : p.b ≤ s.size) (h2 : gcls g.code = 3) :
    Calls Tryd.prog 26 #[.pointer (some ⟨q, 0, none⟩)] w fun r w' => Tq w w' q ∧ ∃ o, TokR s e g gs o ∧ RtO w' q s e p r o := by
  have hl := look_cons hQ
  have hg0 : 0 ≤ (g.code : Int) := by omega
  have n1 : ((g.code : Int) == -1) = false := beq_eq_false_iff_ne.2 (by omega)
  have HQ := hide hQ
  clear hQ
  have q2 : (gcls (g.code : Int) == 2) = false := by rw [h2]; rfl
  have q3 : (gcls (g.code : Int) == 3) = true := by rw [h2]; rfl
  have HOK := hide hok
  have HP := hide HQ.out.tail.1
  have HC2 := hide h2
  clear h2 hok
  have HS0 := hide (rts_begin w q s p h)
  obtain ⟨hq, k0, k1, k2, k3, k4, f1, f2, f3, f4⟩ := h.cells
  clear h
  go_enter Tryd.func26, Tryd.ntmps26
  go_wp2_with fail
  generalize ((((w.alloc (.cells #[.int .i64 0, .string ⟨#[]⟩, .int .i64 0, .int .i64 0, .int .i64 0, .int .i64 0] 35)).alloc (.cells #[.int .i64 0, .int .i64 0, .int .i64 0, .int .i64 0] 25)).alloc (.cells #[.int .i64 p.b, .int .i64 p.g, .int .i64 p.l, .int .i64 p.c] 25)).alloc (.cells #[.int .i64 0, .string ⟨#[]⟩, .int .i64 p.b, .int .i64 p.g, .int .i64 p.l, .int .i64 p.c] 35)) = W0 at HS0 ⊢
  clear k0 k1 k2 k3 k4 f1 f2 f3 f4 hq
  generalize w.heap.size = F at HS0 ⊢
  refine (look_any W0 q s p HS0.out.rdr (by omega)).mono ?_
  rintro r W1 ⟨rfl, hb1⟩
  rw [hl]
  have HS1 := hide (HS0.out.below hb1)
  clear hb1 HS0 hl
  go_wp2_with (go_at_call 41; refine (rcls_any _ _).mono ?_; rintro r w' ⟨rfl, rfl⟩)
  go_loopw [] (fun wr => ∃ (p' : Pl) (gs' : List Gl), Snd s p' gs' e ∧ p'.ok ∧ p'.b ≤ s.size ∧ p.b ≤ p'.b ∧ (g :: gs).dropWhile (inC [3]) = gs'.dropWhile (inC [3]) ∧ p'.g + gs'.length = p.g + (g :: gs).length ∧ RtS w wr q F s p p' ⟨0, ⟨#[]⟩, p⟩) (fun wr => s.size - rpos wr q)
  case atStart => exact ⟨p, g :: gs, HQ.out, HOK.out, hpb, Nat.le_refl _, rfl, rfl, HS1.out⟩
  case round =>
    clear HS1
    obtain ⟨p', gs', hS, hok', hb', hpp, hdw, hcnt, hR⟩ := hrel
    have HS := hide hS
    have HO := hide hok'
    have HDW := hide hdw
    have HCN := hide hcnt
    have HR := hide hR
    have IP := hide hR.rdr.pos
    clear hok' hdw hcnt hR
    have hcase : (∃ g' gs'', gs' = g' :: gs'' ∧ inC [3] g' = true) ∨ (gs'.dropWhile (inC [3]) = gs' ∧ (lookS s p' < 0 ∨ (0 ≤ lookS s p' ∧ gcls (lookS s p') ≠ 3))) := by
      cases gs' with
      | nil =>
        refine .inr ⟨rfl, .inl ?_⟩
        have hle := look_end hS
        by_cases hbe : s.size ≤ e.b
        · rw [hle.2.1 hbe]; omega
        · rw [hle.2.2 (by omega)]; omega
      | cons g' gs'' =>
        by_cases hi : inC [3] g' = true
        · exact .inl ⟨g', gs'', rfl, hi⟩
        · refine .inr ⟨List.dropWhile_cons_of_neg hi, .inr ?_⟩
          rw [look_cons hS]
          simp only [inC, List.mem_singleton, decide_eq_true_eq] at hi
          exact ⟨by omega, hi⟩
    rcases hcase with ⟨g', gs'', rfl, hi⟩ | ⟨hdrop, hno⟩
    · have hl' := look_cons hS
      obtain ⟨t1, t2, t3, t4, t5, t6⟩ := hS.tail
      clear hS
      have HN := hide (fun (W : World) (h : Rdr W q s p') => next_any W q s p' h (by omega) t2 HO.out t4)
      have hd := dec_le s p'.b t2
      have HO2 := hide (HO.out.past (Utf8.decode s p'.b).1 (Utf8.decode s p'.b).2 hd.1)
      have HS2 := hide t5
      have hpos : (p'.past (Utf8.decode s p'.b).1 (Utf8.decode s p'.b).2).b = p'.b + (Utf8.decode s p'.b).2 := rfl
      have hgl : (p'.past (Utf8.decode s p'.b).1 (Utf8.decode s p'.b).2).g = p'.g + 1 := rfl
      generalize p'.past (Utf8.decode s p'.b).1 (Utf8.decode s p'.b).2 = p2 at HN HO2 HS2 hpos hgl
      have hpos' : p'.b < p2.b ∧ p2.b ≤ s.size := by omega
      have hyes : (gcls (g'.code : Int) == 3) = true := by
        simp only [inC, List.mem_singleton, decide_eq_true_eq] at hi
        rw [hi]; rfl
      have hge : (0 : Int) ≤ (g'.code : Int) := by omega
      have HD2 : Hid ((g :: gs).dropWhile (inC [3]) = gs''.dropWhile (inC [3])) := by
        show _ = _
        rw [HDW.out, List.dropWhile_cons_of_pos hi]
      have HC3 : Hid (p2.g + gs''.length = p.g + (g :: gs).length) := by
        show _ = _
        have := HCN.out
        simp only [List.length_cons] at this ⊢
        omega
      clear t1 t2 t3 t4 t5 t6 hd hpos hgl hi
      go_wp2_with fail
      refine (look_any wr q s p' HR.out.rdr (by omega)).mono ?_
      rintro r w2 ⟨rfl, hb2⟩
      rw [hl']
      replace HR := hide (HR.out.below hb2)
      clear hb2
      go_wp2_with fail
      refine (look_any w2 q s p' HR.out.rdr (by omega)).mono ?_
      rintro r w3 ⟨rfl, hb3⟩
      rw [hl']
      replace HR := hide (HR.out.below hb3)
      clear hb3 hl'
      go_wp2_with (go_at_call 41; refine (rcls_any _ _).mono ?_; rintro r w' ⟨rfl, rfl⟩)
      refine (HN.out _ HR.out.rdr).mono ?_
      rintro r w4 ⟨rfl, ht4, hR4⟩
      have HR4 := hide (HR.out.move ht4 hR4)
      clear ht4 hR4
      go_wp2
      go_roundw
      case rel => exact ⟨p2, gs'', HS2.out, HO2.out, hpos'.2, by omega, HD2.out, HC3.out, HR4.out⟩
      case measure => rw [IP.out, HR4.out.rdr.pos]; omega
    · have HDD := hide (HDW.out.trans hdrop)
      clear hdrop
      have hpl : plf gs' e = p' := hS.plf
      have HTX : Hid (s.extract g.pl.b (plf ((g :: gs).dropWhile (inC [3])) e).b = s.extract p.b p'.b) := by
        show _ = _
        rw [HDD.out, hpl, HP.out]
      have hdg := HQ.out.digits HOK.out hpb
      rw [HDD.out, hpl] at hdg
      have hlt : p.b < p'.b := by
        have h1 := HQ.out.tail
        have h2 := dec_le s p.b h1.2.1
        have h3 : (g :: gs).dropWhile (inC [3]) = gs.dropWhile (inC [3]) := List.dropWhile_cons_of_pos (by simp [inC, HC2.out])
        have h4 : gs.length - gs'.length + gs'.length = gs.length := by
          have h5 : gs' = gs.dropWhile (inC [3]) := by rw [← h3, HDD.out]
          have h6 : (gs.dropWhile (inC [3])).length ≤ gs.length := (List.dropWhile_sublist _).length_le
          rw [h5]; omega
        have h7 := HCN.out
        simp only [List.length_cons] at h7
        apply Classical.byContradiction
        intro hn
        have h8 : p'.b = p.b := by omega
        have h9 : (Lm.plf gs e).b = p.b + (Utf8.decode s p.b).2 := by rw [h1.2.2.2.2.2]; rfl
        have h10 := h1.2.2.2.2.1.digits (HOK.out.past _ _ h2.1) (by simp only [Pl.past]; omega)
        rw [← h3, HDD.out, hpl] at h10
        have h11 := h10.2.1
        simp only [Pl.past] at h11
        omega
      obtain ⟨DS, hDS⟩ := gdec_of hdg.1
      obtain ⟨nn, hnn⟩ : ∃ n, IsLen (dval (bytesOf (s.extract p.b p'.b))) n := by
        obtain ⟨rs, hc, hv⟩ := canon_nat (dval (bytesOf (s.extract p.b p'.b))).toNat
        exact ⟨rs.length, rs, hc, by rw [hv]; exact Int.toNat_of_nonneg (dval_bounds hdg.1).1, rfl⟩
      have hsz : (s.extract p.b p'.b).size = p'.b - p.b := by rw [ByteArray.size_extract]; omega
      have KB := hide (fun (W : World) => (bare_any W (s.extract p.b p'.b) (by omega) hdg.1).mono (R' := fun e w' => e = .returned (.string (strOfNums DS)) ∧ w' = W) fun e w' h => by
        obtain ⟨rfl, ds, h1, rfl, _⟩ := h
        exact ⟨by rw [isDec_one h1 hDS], rfl⟩)
      have HL := hide hnn
      have HDS := hide hDS
      have HV : Hid (dval (bytesOf (strOfNums DS)) = dval (bytesOf (s.extract p.b p'.b))) := by
        show _ = _
        rw [bytes_strOf hDS.1]; exact hDS.2.1
      have hDz : (strOfNums DS).size ≤ 5120 := by
        have h1 := dec_short hdg.1 hDS (by rw [bytesOf_length]; omega)
        rw [bytesOf_length, hsz] at h1
        have h2 : (strOfNums DS).size = DS.length := by rw [← bytesOf_length, bytes_strOf hDS.1]
        omega
      clear hS hpl hDS hnn hsz
      rcases hno with hneg | ⟨hge, hnc⟩
      · have hneg' : decide ((0 : Int) ≤ lookS s p') = false := by simp; omega
        go_wp2_with fail
        refine (look_any wr q s p' HR.out.rdr (by omega)).mono ?_
        rintro r w2 ⟨rfl, hb2⟩
        replace HR := hide (HR.out.below hb2)
        clear hb2 hneg
        generalize lookS s p' = lk at hneg' ⊢
        have HRK := hide (HR.out.kind 2)
        have dk0 := HR.out.cells.d0
        have dkv := HR.out.cells.v0
        go_wp2_with fail
        clear dk0 dkv
        generalize w2.setCell ⟨F + 1 + 1 + 1, 0, none⟩ (.int .i64 2) = wK at HRK ⊢
        obtain ⟨hq, k0, k1, k2, k3, k4, f1, f2, f3, f4⟩ := HRK.out.rdr.cells
        obtain ⟨a0, a1, a2, a3, a4, a5, b0, b1, b2, b3, c0, c1, c2, c3, d0, d1, d2, d3, d4, d5, x0, x1, x2, x3, x4, x5, y0, y1, y2, y3, v0, v1⟩ := HRK.out.cells
        have hpp' : (p.b : Int) ≤ (p'.b : Int) := by omega
        have hps : (p'.b : Int) ≤ (s.size : Int) := by omega
        go_cut [] (fun wx => RtS w wx q F s p p' ⟨2, strOfNums DS, p⟩)
        case first =>
          go_region_law (refine step_bare rfl (.tmp 81) #[9] rfl (s.extract p.b p'.b) (strOfNums DS) (by simp [Act.eval, Act.put]) KB.out ?_)
          all_goals (
            go_wp2_with fail
            go_meet
            exact (HRK.out.text (strOfNums DS)).drew)
        case rest =>
          have HRT := hide hcut
          clear hcut HRK hq k0 k1 k2 k3 k4 f1 f2 f3 f4 a0 a1 a2 a3 a4 a5 b0 b1 b2 b3 c0 c1 c2 c3 d0 d1 d2 d3 d4 d5 x0 x1 x2 x3 x4 x5 y0 y1 y2 y3 v0 v1
          have d1 := HRT.out.cells.d1
          simp only at d1
          go_wp2_with fail
          refine (Dm.digits_any wc (strOfNums DS) (by rw [bytes_strOf HDS.out.1]; exact HDS.out.1) hDz).mono ?_
          rintro r w5 ⟨ao, cap, D, rfl, hG, hD6, hb5⟩
          rw [HV.out] at hG
          replace HRT := hide (HRT.out.below hb5)
          have HG := hide hG
          clear hb5 d1 hG
          go_wp2_with fail
          refine (big_any w5 ao cap D _ (dval_bounds hdg.1).1 HG.out hD6 nn HL.out).mono ?_
          rintro r w6 ⟨rfl, hb6⟩
          replace HRT := hide (HRT.out.below hb6)
          clear hb6
          obtain ⟨a0, a1, a2, a3, a4, a5, b0, b1, b2, b3, c0, c1, c2, c3, d0, d1, d2, d3, d4, d5, x0, x1, x2, x3, x4, x5, y0, y1, y2, y3, v0, v1⟩ := HRT.out.cells
          by_cases h32 : 32 < nn
          · have h32' : decide (32 < nn) = true := by simp [h32]
            rw [h32']
            go_wp2_with fail
            go_region
            go_wp2
            refine rt_ret HRT.out.fin.drew 2 rfl rfl rfl rfl ⟨HRT.out.fin.drew.tq, .bad 2, ?_, _, rfl⟩
            have := tokR_num (s := s) (e := e) (r := gs) (n := nn) (ds := DS) HC2.out (by rw [HTX.out]; exact HL.out) (by rw [HTX.out]; exact HDS.out)
            rw [HDD.out, if_pos h32] at this
            exact this
          · have h32' : decide (32 < nn) = false := by simp; omega
            rw [h32']
            go_wp2_with fail
            go_region
            go_wp2
            refine rt_ret HRT.out.fin.drew 0 rfl rfl rfl rfl ⟨HRT.out.fin.drew.tq, .ok 2 (strOfNums DS) gs', ?_, rfl, p', HRT.out.fin.drew.rdr, HS.out, HO.out, hb'⟩
            have := tokR_num (s := s) (e := e) (r := gs) (n := nn) (ds := DS) HC2.out (by rw [HTX.out]; exact HL.out) (by rw [HTX.out]; exact HDS.out)
            rw [HDD.out, if_neg h32] at this
            exact this
      · have hnc' : (gcls (lookS s p') == 3) = false := beq_eq_false_iff_ne.2 hnc
        go_wp2_with fail
        refine (look_any wr q s p' HR.out.rdr (by omega)).mono ?_
        rintro r w2 ⟨rfl, hb2⟩
        replace HR := hide (HR.out.below hb2)
        clear hb2 hnc
        have KL := hide (fun (W : World) (h : Rdr W q s p') => look_any W q s p' h (by omega))
        generalize lookS s p' = lk at hge hnc' KL ⊢
        go_wp2_with fail
        refine (KL.out w2 HR.out.rdr).mono ?_
        rintro r w3 ⟨rfl, hb3⟩
        replace HR := hide (HR.out.below hb3)
        clear hb3 KL
        have HRK := hide (HR.out.kind 2)
        have dk0 := HR.out.cells.d0
        have dkv := HR.out.cells.v0
        go_wp2_with fail
        refine (rcls_any _ _).mono ?_
        rintro r w4 ⟨rfl, rfl⟩
        go_wp2_with fail
        clear dk0 dkv
        generalize w4.setCell ⟨F + 1 + 1 + 1, 0, none⟩ (.int .i64 2) = wK at HRK ⊢
        obtain ⟨hq, k0, k1, k2, k3, k4, f1, f2, f3, f4⟩ := HRK.out.rdr.cells
        obtain ⟨a0, a1, a2, a3, a4, a5, b0, b1, b2, b3, c0, c1, c2, c3, d0, d1, d2, d3, d4, d5, x0, x1, x2, x3, x4, x5, y0, y1, y2, y3, v0, v1⟩ := HRK.out.cells
        have hpp' : (p.b : Int) ≤ (p'.b : Int) := by omega
        have hps : (p'.b : Int) ≤ (s.size : Int) := by omega
        go_cut [] (fun wx => RtS w wx q F s p p' ⟨2, strOfNums DS, p⟩)
        case first =>
          go_region_law (refine step_bare rfl (.tmp 81) #[9] rfl (s.extract p.b p'.b) (strOfNums DS) (by simp [Act.eval, Act.put]) KB.out ?_)
          all_goals (
            go_wp2_with fail
            go_meet
            exact (HRK.out.text (strOfNums DS)).drew)
        case rest =>
          have HRT := hide hcut
          clear hcut HRK hq k0 k1 k2 k3 k4 f1 f2 f3 f4 a0 a1 a2 a3 a4 a5 b0 b1 b2 b3 c0 c1 c2 c3 d0 d1 d2 d3 d4 d5 x0 x1 x2 x3 x4 x5 y0 y1 y2 y3 v0 v1
          have d1 := HRT.out.cells.d1
          simp only at d1
          go_wp2_with fail
          refine (Dm.digits_any wc (strOfNums DS) (by rw [bytes_strOf HDS.out.1]; exact HDS.out.1) hDz).mono ?_
          rintro r w5 ⟨ao, cap, D, rfl, hG, hD6, hb5⟩
          rw [HV.out] at hG
          replace HRT := hide (HRT.out.below hb5)
          have HG := hide hG
          clear hb5 d1 hG
          go_wp2_with fail
          refine (big_any w5 ao cap D _ (dval_bounds hdg.1).1 HG.out hD6 nn HL.out).mono ?_
          rintro r w6 ⟨rfl, hb6⟩
          replace HRT := hide (HRT.out.below hb6)
          clear hb6
          obtain ⟨a0, a1, a2, a3, a4, a5, b0, b1, b2, b3, c0, c1, c2, c3, d0, d1, d2, d3, d4, d5, x0, x1, x2, x3, x4, x5, y0, y1, y2, y3, v0, v1⟩ := HRT.out.cells
          by_cases h32 : 32 < nn
          · have h32' : decide (32 < nn) = true := by simp [h32]
            rw [h32']
            go_wp2_with fail
            go_region
            go_wp2
            refine rt_ret HRT.out.fin.drew 2 rfl rfl rfl rfl ⟨HRT.out.fin.drew.tq, .bad 2, ?_, _, rfl⟩
            have := tokR_num (s := s) (e := e) (r := gs) (n := nn) (ds := DS) HC2.out (by rw [HTX.out]; exact HL.out) (by rw [HTX.out]; exact HDS.out)
            rw [HDD.out, if_pos h32] at this
            exact this
          · have h32' : decide (32 < nn) = false := by simp; omega
            rw [h32']
            go_wp2_with fail
            go_region
            go_wp2
            refine rt_ret HRT.out.fin.drew 0 rfl rfl rfl rfl ⟨HRT.out.fin.drew.tq, .ok 2 (strOfNums DS) gs', ?_, rfl, p', HRT.out.fin.drew.rdr, HS.out, HO.out, hb'⟩
            have := tokR_num (s := s) (e := e) (r := gs) (n := nn) (ds := DS) HC2.out (by rw [HTX.out]; exact HL.out) (by rw [HTX.out]; exact HDS.out)
            rw [HDD.out, if_neg h32] at this
            exact this
end Lm
end Go.Proofs.YtgfglefgpgckiaaDoor

namespace Go.Proofs.YtgfglefgpgckiaaDoor
namespace Lm
open Go Go.RowKit
structure RgS (w wr : World) (q f B : Nat) (s : ByteArray) (p : Pl) (T : TypeId) (v : Value) (n : Nat) (xs : List Value) : Prop where
  rdr : Rdr wr q s p
  own : wr.ownsRow B T 6 v n xs
  zer : PlB wr f plz
  bel : Below w.heap.size w wr
  siz : B ≤ wr.heap.size
  fw : w.heap.size ≤ f
  qw : w.heap.size ≤ q
  fq : f ≠ q
  fB : f < B
  qB : q < B
section
variable {w wr w' w1 : World} {q f B : Nat} {s : ByteArray} {p p' : Pl} {T : TypeId} {v v' : Value} {n n' : Nat} {xs xs' : List Value}
theorem RgS.below (h : RgS w wr q f B s p T v n xs) (hb : Below wr.heap.size wr w') : RgS w w' q f B s p T v n xs :=
  ⟨h.rdr.below hb, own_below h.own hb, h.zer.below hb, h.bel.trans (hb.mono h.bel.size), Nat.le_trans h.siz hb.size, h.fw, h.qw, h.fq, h.fB, h.qB⟩
theorem RgS.tq (h : RgS w wr q f B s p T v n xs) (ht : Tq wr w' q) (hr : Rdr w' q s p') : RgS w w' q f B s p' T v n xs :=
  ⟨hr, own_keep h.own fun k _ hk he => (ht.other k (lt_of_heap he) (by have := h.qB; omega)).trans he, h.zer.tq ht h.fq, below_tq h.bel ht h.qw (Nat.le_refl _), Nat.le_trans h.siz ht.size, h.fw, h.qw, h.fq, h.fB, h.qB⟩
theorem RgS.more (h : RgS w wr q f B s p T v n xs) (hg : wr.grownBy w1 v.ownBlock) (hown : w1.ownsRow B T 6 v' n' xs') : RgS w w1 q f B s p T v' n' xs' := by
  have hrow : ∀ k, k < B → some k ≠ v.ownBlock := by
    intro k hk
    obtain ⟨hl, ⟨rfl, _⟩ | ⟨b, cap, cur, rfl, hb, _⟩⟩ := h.own
    · simp [Value.ownBlock]
    · simp only [Value.ownBlock, ne_eq, Option.some.injEq]
      omega
  have hz := h.siz
  have hB : ∀ k, k < B → w1.heap[k]? = wr.heap[k]? := fun k hk => hg.block k (by omega) (hrow k hk)
  exact ⟨(hB q h.qB).trans h.rdr, hown, (hB f h.fB).trans h.zer, ⟨hg.os.trans h.bel.os, hg.tape.trans h.bel.tape, hg.output.trans h.bel.output, Nat.le_trans h.bel.size hg.size, fun k hk => (hB k (by have := h.fw; have := h.fB; omega)).trans (h.bel.block k hk)⟩, Nat.le_trans h.siz hg.size, h.fw, h.qw, h.fq, h.fB, h.qB⟩
end
end Lm
end Go.Proofs.YtgfglefgpgckiaaDoor

namespace Go.Proofs.YtgfglefgpgckiaaDoor
namespace Lm
open Go Go.RowKit
theorem bys (w : World) (l : List UInt8) (n : Nat) (hn : n = l.length) (cs : Array Value) (hc : cs = (l.map fun b => Value.int .u8 (b.toNat : Int)).toArray) :
    (convert 70 9 (.slice (some ⟨w.heap.size, 0, none⟩) n n)).run Tryd.prog (w.alloc (.cells cs 5)) = .ok (.string ⟨l.toArray⟩) (w.alloc (.cells cs 5)) := by
  subst hn
  refine run_convert_bytes_back _ 70 9 5 _ _ l Tryd.underlying70 Tryd.underlying5 Tryd.underlying9 ?_
  intro j hj
  have e : (⟨w.heap.size, 0, none⟩ : Addr).add j = ⟨w.heap.size, j, none⟩ := by simp [Addr.add]; intro h; exact h.symm
  rw [e, World.cell?_alloc_mark, hc]
  simp [hj]
end Lm
end Go.Proofs.YtgfglefgpgckiaaDoor

namespace Go.Proofs.YtgfglefgpgckiaaDoor
namespace Lm
open Go Go.RowKit
set_option maxRecDepth 400000 in
set_option maxRecDepth 20000 in
set_option maxHeartbeats 4000000 in
theorem rtoken_twoa (w : World) (q : Nat) (s : ByteArray) (p e : Pl) (g : Gl) (gs : List Gl) (h : Rdr w q s p) (hm : s.size ≤ 4096) (hQ : Snd s p (g :: gs) e) (hok : p.ok) (h5 : gcls g.code = 5) (hc : g.code = 8788) :
    Calls Tryd.prog 26 #[.pointer (some ⟨q, 0, none⟩)] w fun r w' => Tq w w' q ∧ RtO w' q s e p r (.ok 3 (strOfNums [58, 61]) gs) := by
  have hl := look_cons hQ
  have hg0 : 0 ≤ (g.code : Int) := by omega
  have n1 : ((g.code : Int) == -1) = false := beq_eq_false_iff_ne.2 (by omega)
  have HQ := hide hQ
  clear hQ
  have q2 : (gcls (g.code : Int) == 2) = false := by rw [h5]; rfl
  have q3 : (gcls (g.code : Int) == 3) = false := by rw [h5]; rfl
  have q5 : (gcls (g.code : Int) == 5) = true := by rw [h5]; rfl
  obtain ⟨t1, t2, t3, t4, t5, t6⟩ := HQ.out.tail
  have HN := hide (fun (W : World) (h : Rdr W q s p) => next_any W q s p h (by omega) t2 hok t4)
  have hd := dec_le s p.b t2
  have HO2 := hide (hok.past (Utf8.decode s p.b).1 (Utf8.decode s p.b).2 hd.1)
  have HS2 := hide t5
  have hpos : (p.past (Utf8.decode s p.b).1 (Utf8.decode s p.b).2).b = p.b + (Utf8.decode s p.b).2 := rfl
  generalize p.past (Utf8.decode s p.b).1 (Utf8.decode s p.b).2 = p2 at HN HO2 HS2 hpos
  have hpos' : p2.b ≤ s.size := by omega
  have m1 : ((g.code : Int) == 8788) = true := by simp; omega
  clear hc
  clear t1 t2 t3 t4 t5 t6 hd hpos h5 hok
  have HS0 := hide (rts_begin w q s p h)
  obtain ⟨hq, k0, k1, k2, k3, k4, f1, f2, f3, f4⟩ := h.cells
  clear h
  go_enter Tryd.func26, Tryd.ntmps26
  go_wp2_with fail
  generalize ((((w.alloc (.cells #[.int .i64 0, .string ⟨#[]⟩, .int .i64 0, .int .i64 0, .int .i64 0, .int .i64 0] 35)).alloc (.cells #[.int .i64 0, .int .i64 0, .int .i64 0, .int .i64 0] 25)).alloc (.cells #[.int .i64 p.b, .int .i64 p.g, .int .i64 p.l, .int .i64 p.c] 25)).alloc (.cells #[.int .i64 0, .string ⟨#[]⟩, .int .i64 p.b, .int .i64 p.g, .int .i64 p.l, .int .i64 p.c] 35)) = W0 at HS0 ⊢
  clear k0 k1 k2 k3 k4 f1 f2 f3 f4 hq
  generalize w.heap.size = F at HS0 ⊢
  refine (look_any W0 q s p HS0.out.rdr (by omega)).mono ?_
  rintro r W1 ⟨rfl, hb1⟩
  rw [hl]
  have HS1 := hide (HS0.out.below hb1)
  clear hb1 HS0 hl
  have HRK := hide (HS1.out.kind 3)
  have dk0 := HS1.out.cells.d0
  have dkv := HS1.out.cells.v0
  go_wp2_with fail
  refine (rcls_any _ _).mono ?_
  rintro r Wb ⟨rfl, rfl⟩
  go_wp2_with fail
  clear dk0 dkv
  generalize Wb.setCell ⟨F + 1 + 1 + 1, 0, none⟩ (.int .i64 3) = wK at HRK ⊢
  refine (HN.out wK HRK.out.rdr).mono ?_
  rintro r w4 ⟨rfl, ht4, hR4⟩
  have HR4 := hide (HRK.out.move ht4 hR4)
  clear ht4 hR4 HRK HS1
  have e1 := HR4.out.cells.d1
  have e2 := HR4.out.cells.v1
  simp only at e1
  go_wp2_with fail
  have HRT := hide (HR4.out.text ⟨#[58, 61]⟩)
  simp only at HRT
  clear e1 e2 HR4
  generalize w4.setCell ⟨F + 1 + 1 + 1, 1, none⟩ (.string ⟨#[58, 61]⟩) = wT at HRT ⊢
  obtain ⟨a0, a1, a2, a3, a4, a5, b0, b1, b2, b3, c0, c1, c2, c3, d0, d1, d2, d3, d4, d5, x0, x1, x2, x3, x4, x5, y0, y1, y2, y3, v0, v1⟩ := HRT.out.cells
  go_wp2_with fail
  go_region
  go_wp2
  exact rt_ret HRT.out.fin.drew 0 rfl rfl rfl rfl ⟨HRT.out.fin.drew.tq, rfl, p2, HRT.out.fin.drew.rdr, HS2.out, HO2.out, hpos'⟩
set_option maxRecDepth 400000 in
set_option maxRecDepth 20000 in
set_option maxHeartbeats 4000000 in
theorem rtoken_twob (w : World) (q : Nat) (s : ByteArray) (p e : Pl) (g : Gl) (gs : List Gl) (h : Rdr w q s p) (hm : s.size ≤ 4096) (hQ : Snd s p (g :: gs) e) (hok : p.ok) (h5 : gcls g.code = 5) (hc : g.code = 8800) :
    Calls Tryd.prog 26 #[.pointer (some ⟨q, 0, none⟩)] w fun r w' => Tq w w' q ∧ RtO w' q s e p r (.ok 3 (strOfNums [33, 61]) gs) := by
  have hl := look_cons hQ
  have hg0 : 0 ≤ (g.code : Int) := by omega
  have n1 : ((g.code : Int) == -1) = false := beq_eq_false_iff_ne.2 (by omega)
  have HQ := hide hQ
  clear hQ
  have q2 : (gcls (g.code : Int) == 2) = false := by rw [h5]; rfl
  have q3 : (gcls (g.code : Int) == 3) = false := by rw [h5]; rfl
  have q5 : (gcls (g.code : Int) == 5) = true := by rw [h5]; rfl
  obtain ⟨t1, t2, t3, t4, t5, t6⟩ := HQ.out.tail
  have HN := hide (fun (W : World) (h : Rdr W q s p) => next_any W q s p h (by omega) t2 hok t4)
  have hd := dec_le s p.b t2
  have HO2 := hide (hok.past (Utf8.decode s p.b).1 (Utf8.decode s p.b).2 hd.1)
  have HS2 := hide t5
  have hpos : (p.past (Utf8.decode s p.b).1 (Utf8.decode s p.b).2).b = p.b + (Utf8.decode s p.b).2 := rfl
  generalize p.past (Utf8.decode s p.b).1 (Utf8.decode s p.b).2 = p2 at HN HO2 HS2 hpos
  have hpos' : p2.b ≤ s.size := by omega
  have m0 : ((g.code : Int) == 8788) = false := beq_eq_false_iff_ne.2 (by omega)
  have m1 : ((g.code : Int) == 8800) = true := by simp; omega
  clear hc
  clear t1 t2 t3 t4 t5 t6 hd hpos h5 hok
  have HS0 := hide (rts_begin w q s p h)
  obtain ⟨hq, k0, k1, k2, k3, k4, f1, f2, f3, f4⟩ := h.cells
  clear h
  go_enter Tryd.func26, Tryd.ntmps26
  go_wp2_with fail
  generalize ((((w.alloc (.cells #[.int .i64 0, .string ⟨#[]⟩, .int .i64 0, .int .i64 0, .int .i64 0, .int .i64 0] 35)).alloc (.cells #[.int .i64 0, .int .i64 0, .int .i64 0, .int .i64 0] 25)).alloc (.cells #[.int .i64 p.b, .int .i64 p.g, .int .i64 p.l, .int .i64 p.c] 25)).alloc (.cells #[.int .i64 0, .string ⟨#[]⟩, .int .i64 p.b, .int .i64 p.g, .int .i64 p.l, .int .i64 p.c] 35)) = W0 at HS0 ⊢
  clear k0 k1 k2 k3 k4 f1 f2 f3 f4 hq
  generalize w.heap.size = F at HS0 ⊢
  refine (look_any W0 q s p HS0.out.rdr (by omega)).mono ?_
  rintro r W1 ⟨rfl, hb1⟩
  rw [hl]
  have HS1 := hide (HS0.out.below hb1)
  clear hb1 HS0 hl
  have HRK := hide (HS1.out.kind 3)
  have dk0 := HS1.out.cells.d0
  have dkv := HS1.out.cells.v0
  go_wp2_with fail
  refine (rcls_any _ _).mono ?_
  rintro r Wb ⟨rfl, rfl⟩
  go_wp2_with fail
  clear dk0 dkv
  generalize Wb.setCell ⟨F + 1 + 1 + 1, 0, none⟩ (.int .i64 3) = wK at HRK ⊢
  refine (HN.out wK HRK.out.rdr).mono ?_
  rintro r w4 ⟨rfl, ht4, hR4⟩
  have HR4 := hide (HRK.out.move ht4 hR4)
  clear ht4 hR4 HRK HS1
  have e1 := HR4.out.cells.d1
  have e2 := HR4.out.cells.v1
  simp only at e1
  go_wp2_with fail
  have HRT := hide (HR4.out.text ⟨#[33, 61]⟩)
  simp only at HRT
  clear e1 e2 HR4
  generalize w4.setCell ⟨F + 1 + 1 + 1, 1, none⟩ (.string ⟨#[33, 61]⟩) = wT at HRT ⊢
  obtain ⟨a0, a1, a2, a3, a4, a5, b0, b1, b2, b3, c0, c1, c2, c3, d0, d1, d2, d3, d4, d5, x0, x1, x2, x3, x4, x5, y0, y1, y2, y3, v0, v1⟩ := HRT.out.cells
  go_wp2_with fail
  go_region
  go_wp2
  exact rt_ret HRT.out.fin.drew 0 rfl rfl rfl rfl ⟨HRT.out.fin.drew.tq, rfl, p2, HRT.out.fin.drew.rdr, HS2.out, HO2.out, hpos'⟩
set_option maxRecDepth 400000 in
set_option maxRecDepth 20000 in
set_option maxHeartbeats 4000000 in
theorem rtoken_lonea (w : World) (q : Nat) (s : ByteArray) (p e : Pl) (g : Gl) (gs : List Gl) (h : Rdr w q s p) (hm : s.size ≤ 4096) (hQ : Snd s p (g :: gs) e) (hok : p.ok) (h5 : gcls g.code = 5) (hc : g.code = 58) (hno : lookS s (p.past (Utf8.decode s p.b).1 (Utf8.decode s p.b).2) ≠ 61) :
    Calls Tryd.prog 26 #[.pointer (some ⟨q, 0, none⟩)] w fun r w' => Tq w w' q ∧ RtO w' q s e p r (.bad 41) := by
  have hl := look_cons hQ
  have hg0 : 0 ≤ (g.code : Int) := by omega
  have n1 : ((g.code : Int) == -1) = false := beq_eq_false_iff_ne.2 (by omega)
  have HQ := hide hQ
  clear hQ
  have q2 : (gcls (g.code : Int) == 2) = false := by rw [h5]; rfl
  have q3 : (gcls (g.code : Int) == 3) = false := by rw [h5]; rfl
  have q5 : (gcls (g.code : Int) == 5) = true := by rw [h5]; rfl
  obtain ⟨t1, t2, t3, t4, t5, t6⟩ := HQ.out.tail
  have HN := hide (fun (W : World) (h : Rdr W q s p) => next_any W q s p h (by omega) t2 hok t4)
  have hd := dec_le s p.b t2
  have HO2 := hide (hok.past (Utf8.decode s p.b).1 (Utf8.decode s p.b).2 hd.1)
  have HS2 := hide t5
  have hpos : (p.past (Utf8.decode s p.b).1 (Utf8.decode s p.b).2).b = p.b + (Utf8.decode s p.b).2 := rfl
  generalize p.past (Utf8.decode s p.b).1 (Utf8.decode s p.b).2 = p2 at HN HO2 HS2 hpos hno
  have hpos' : p2.b ≤ s.size := by omega
  have m0 : ((g.code : Int) == 8788) = false := beq_eq_false_iff_ne.2 (by omega)
  have m1 : ((g.code : Int) == 8800) = false := beq_eq_false_iff_ne.2 (by omega)
  have m2 : ((g.code : Int) == 58) = true := by simp; omega
  have m3 : ((g.code : Int) == 33) = false := beq_eq_false_iff_ne.2 (by omega)
  have hno0 := hno
  clear hno hc
  clear t1 t2 t3 t4 t5 t6 hd hpos h5 hok
  have HS0 := hide (rts_begin w q s p h)
  obtain ⟨hq, k0, k1, k2, k3, k4, f1, f2, f3, f4⟩ := h.cells
  clear h
  go_enter Tryd.func26, Tryd.ntmps26
  go_wp2_with fail
  generalize ((((w.alloc (.cells #[.int .i64 0, .string ⟨#[]⟩, .int .i64 0, .int .i64 0, .int .i64 0, .int .i64 0] 35)).alloc (.cells #[.int .i64 0, .int .i64 0, .int .i64 0, .int .i64 0] 25)).alloc (.cells #[.int .i64 p.b, .int .i64 p.g, .int .i64 p.l, .int .i64 p.c] 25)).alloc (.cells #[.int .i64 0, .string ⟨#[]⟩, .int .i64 p.b, .int .i64 p.g, .int .i64 p.l, .int .i64 p.c] 35)) = W0 at HS0 ⊢
  clear k0 k1 k2 k3 k4 f1 f2 f3 f4 hq
  generalize w.heap.size = F at HS0 ⊢
  refine (look_any W0 q s p HS0.out.rdr (by omega)).mono ?_
  rintro r W1 ⟨rfl, hb1⟩
  rw [hl]
  have HS1 := hide (HS0.out.below hb1)
  clear hb1 HS0 hl
  have HRK := hide (HS1.out.kind 3)
  have dk0 := HS1.out.cells.d0
  have dkv := HS1.out.cells.v0
  go_wp2_with fail
  refine (rcls_any _ _).mono ?_
  rintro r Wb ⟨rfl, rfl⟩
  go_wp2_with fail
  clear dk0 dkv
  generalize Wb.setCell ⟨F + 1 + 1 + 1, 0, none⟩ (.int .i64 3) = wK at HRK ⊢
  refine (HN.out wK HRK.out.rdr).mono ?_
  rintro r w4 ⟨rfl, ht4, hR4⟩
  have HR4 := hide (HRK.out.move ht4 hR4)
  clear ht4 hR4 HRK HS1
  have e1 := HR4.out.cells.d1
  have e2 := HR4.out.cells.v1
  simp only at e1
  go_wp2_with fail
  refine (look_any w4 q s p2 HR4.out.rdr (by omega)).mono ?_
  rintro r w5 ⟨rfl, hb5⟩
  have HRT := hide (HR4.out.below hb5)
  have hne : (lookS s p2 != 61) = true := by simp [hno0]
  clear hb5 e1 e2 HR4 hno0
  generalize lookS s p2 = lk at hne ⊢
  obtain ⟨a0, a1, a2, a3, a4, a5, b0, b1, b2, b3, c0, c1, c2, c3, d0, d1, d2, d3, d4, d5, x0, x1, x2, x3, x4, x5, y0, y1, y2, y3, v0, v1⟩ := HRT.out.cells
  go_wp2_with fail
  go_region
  go_wp2
  exact rt_ret HRT.out.fin.drew 41 rfl rfl rfl rfl ⟨HRT.out.fin.drew.tq, _, rfl⟩
set_option maxRecDepth 400000 in
set_option maxRecDepth 20000 in
set_option maxHeartbeats 4000000 in
theorem rtoken_paira (w : World) (q : Nat) (s : ByteArray) (p e : Pl) (g : Gl) (gs : List Gl) (h : Rdr w q s p) (hm : s.size ≤ 4096) (hQ : Snd s p (g :: gs) e) (hok : p.ok) (h5 : gcls g.code = 5) (hc : g.code = 58) (g2 : Gl) (gs2 : List Gl) (hgs : gs = g2 :: gs2) (h61 : g2.code = 61) :
    Calls Tryd.prog 26 #[.pointer (some ⟨q, 0, none⟩)] w fun r w' => Tq w w' q ∧ RtO w' q s e p r (.ok 3 (strOfNums [58, 61]) gs2) := by
  have hl := look_cons hQ
  have hg0 : 0 ≤ (g.code : Int) := by omega
  have n1 : ((g.code : Int) == -1) = false := beq_eq_false_iff_ne.2 (by omega)
  have HQ := hide hQ
  clear hQ
  have q2 : (gcls (g.code : Int) == 2) = false := by rw [h5]; rfl
  have q3 : (gcls (g.code : Int) == 3) = false := by rw [h5]; rfl
  have q5 : (gcls (g.code : Int) == 5) = true := by rw [h5]; rfl
  obtain ⟨t1, t2, t3, t4, t5, t6⟩ := HQ.out.tail
  have HN := hide (fun (W : World) (h : Rdr W q s p) => next_any W q s p h (by omega) t2 hok t4)
  have hd := dec_le s p.b t2
  have HO2 := hide (hok.past (Utf8.decode s p.b).1 (Utf8.decode s p.b).2 hd.1)
  have HS2 := hide t5
  have hpos : (p.past (Utf8.decode s p.b).1 (Utf8.decode s p.b).2).b = p.b + (Utf8.decode s p.b).2 := rfl
  generalize p.past (Utf8.decode s p.b).1 (Utf8.decode s p.b).2 = p2 at HN HO2 HS2 hpos
  have hpos' : p2.b ≤ s.size := by omega
  subst hgs
  have m0 : ((g.code : Int) == 8788) = false := beq_eq_false_iff_ne.2 (by omega)
  have m1 : ((g.code : Int) == 8800) = false := beq_eq_false_iff_ne.2 (by omega)
  have m2 : ((g.code : Int) == 58) = true := by simp; omega
  have m3 : ((g.code : Int) == 33) = false := beq_eq_false_iff_ne.2 (by omega)
  clear hc
  clear t1 t2 t3 t4 t5 t6 hd hpos h5 hok
  have HS0 := hide (rts_begin w q s p h)
  obtain ⟨hq, k0, k1, k2, k3, k4, f1, f2, f3, f4⟩ := h.cells
  clear h
  go_enter Tryd.func26, Tryd.ntmps26
  go_wp2_with fail
  generalize ((((w.alloc (.cells #[.int .i64 0, .string ⟨#[]⟩, .int .i64 0, .int .i64 0, .int .i64 0, .int .i64 0] 35)).alloc (.cells #[.int .i64 0, .int .i64 0, .int .i64 0, .int .i64 0] 25)).alloc (.cells #[.int .i64 p.b, .int .i64 p.g, .int .i64 p.l, .int .i64 p.c] 25)).alloc (.cells #[.int .i64 0, .string ⟨#[]⟩, .int .i64 p.b, .int .i64 p.g, .int .i64 p.l, .int .i64 p.c] 35)) = W0 at HS0 ⊢
  clear k0 k1 k2 k3 k4 f1 f2 f3 f4 hq
  generalize w.heap.size = F at HS0 ⊢
  refine (look_any W0 q s p HS0.out.rdr (by omega)).mono ?_
  rintro r W1 ⟨rfl, hb1⟩
  rw [hl]
  have HS1 := hide (HS0.out.below hb1)
  clear hb1 HS0 hl
  have HRK := hide (HS1.out.kind 3)
  have dk0 := HS1.out.cells.d0
  have dkv := HS1.out.cells.v0
  go_wp2_with fail
  refine (rcls_any _ _).mono ?_
  rintro r Wb ⟨rfl, rfl⟩
  go_wp2_with fail
  clear dk0 dkv
  generalize Wb.setCell ⟨F + 1 + 1 + 1, 0, none⟩ (.int .i64 3) = wK at HRK ⊢
  refine (HN.out wK HRK.out.rdr).mono ?_
  rintro r w4 ⟨rfl, ht4, hR4⟩
  have HR4 := hide (HRK.out.move ht4 hR4)
  clear ht4 hR4 HRK HS1
  have e1 := HR4.out.cells.d1
  have e2 := HR4.out.cells.v1
  simp only at e1
  have hl2 := look_cons HS2.out
  obtain ⟨t1, t2, t3, t4, t5, t6⟩ := HS2.out.tail
  have HN2 := hide (fun (W : World) (h : Rdr W q s p2) => next_any W q s p2 h (by omega) t2 HO2.out t4)
  have hd := dec_le s p2.b t2
  have HO3 := hide (HO2.out.past (Utf8.decode s p2.b).1 (Utf8.decode s p2.b).2 hd.1)
  have HS3 := hide t5
  have hpos : (p2.past (Utf8.decode s p2.b).1 (Utf8.decode s p2.b).2).b = p2.b + (Utf8.decode s p2.b).2 := rfl
  generalize p2.past (Utf8.decode s p2.b).1 (Utf8.decode s p2.b).2 = p3 at HN2 HO3 HS3 hpos
  have hpos3 : p3.b ≤ s.size := by omega
  have hne : ((g2.code : Int) != 61) = false := by rw [h61]; rfl
  clear t1 t2 t3 t4 t5 t6 hd hpos
  go_wp2_with fail
  refine (look_any w4 q s p2 HR4.out.rdr (by omega)).mono ?_
  rintro r w5 ⟨rfl, hb5⟩
  rw [hl2]
  have HR5 := hide (HR4.out.below hb5)
  clear hb5 e1 e2 HR4 hl2
  go_wp2_with fail
  refine (HN2.out w5 HR5.out.rdr).mono ?_
  rintro r w6 ⟨rfl, ht6, hR6⟩
  have HR6 := hide (HR5.out.move ht6 hR6)
  clear ht6 hR6 HR5
  have e1 := HR6.out.cells.d1
  have e2 := HR6.out.cells.v1
  simp only at e1
  go_wp2_with fail
  have HRT := hide (HR6.out.text ⟨#[58, 61]⟩)
  simp only at HRT
  clear e1 e2 HR6
  generalize w6.setCell ⟨F + 1 + 1 + 1, 1, none⟩ (.string ⟨#[58, 61]⟩) = wT at HRT ⊢
  obtain ⟨a0, a1, a2, a3, a4, a5, b0, b1, b2, b3, c0, c1, c2, c3, d0, d1, d2, d3, d4, d5, x0, x1, x2, x3, x4, x5, y0, y1, y2, y3, v0, v1⟩ := HRT.out.cells
  go_wp2_with fail
  go_region
  go_wp2
  exact rt_ret HRT.out.fin.drew 0 rfl rfl rfl rfl ⟨HRT.out.fin.drew.tq, rfl, p3, HRT.out.fin.drew.rdr, HS3.out, HO3.out, hpos3⟩
set_option maxRecDepth 400000 in
set_option maxRecDepth 20000 in
set_option maxHeartbeats 4000000 in
theorem rtoken_loneb (w : World) (q : Nat) (s : ByteArray) (p e : Pl) (g : Gl) (gs : List Gl) (h : Rdr w q s p) (hm : s.size ≤ 4096) (hQ : Snd s p (g :: gs) e) (hok : p.ok) (h5 : gcls g.code = 5) (hc : g.code = 33) (hno : lookS s (p.past (Utf8.decode s p.b).1 (Utf8.decode s p.b).2) ≠ 61) :
    Calls Tryd.prog 26 #[.pointer (some ⟨q, 0, none⟩)] w fun r w' => Tq w w' q ∧ RtO w' q s e p r (.bad 41) := by
  have hl := look_cons hQ
  have hg0 : 0 ≤ (g.code : Int) := by omega
  have n1 : ((g.code : Int) == -1) = false := beq_eq_false_iff_ne.2 (by omega)
  have HQ := hide hQ
  clear hQ
  have q2 : (gcls (g.code : Int) == 2) = false := by rw [h5]; rfl
  have q3 : (gcls (g.code : Int) == 3) = false := by rw [h5]; rfl
  have q5 : (gcls (g.code : Int) == 5) = true := by rw [h5]; rfl
  obtain ⟨t1, t2, t3, t4, t5, t6⟩ := HQ.out.tail
  have HN := hide (fun (W : World) (h : Rdr W q s p) => next_any W q s p h (by omega) t2 hok t4)
  have hd := dec_le s p.b t2
  have HO2 := hide (hok.past (Utf8.decode s p.b).1 (Utf8.decode s p.b).2 hd.1)
  have HS2 := hide t5
  have hpos : (p.past (Utf8.decode s p.b).1 (Utf8.decode s p.b).2).b = p.b + (Utf8.decode s p.b).2 := rfl
  generalize p.past (Utf8.decode s p.b).1 (Utf8.decode s p.b).2 = p2 at HN HO2 HS2 hpos hno
  have hpos' : p2.b ≤ s.size := by omega
  have m0 : ((g.code : Int) == 8788) = false := beq_eq_false_iff_ne.2 (by omega)
  have m1 : ((g.code : Int) == 8800) = false := beq_eq_false_iff_ne.2 (by omega)
  have m2 : ((g.code : Int) == 58) = false := beq_eq_false_iff_ne.2 (by omega)
  have m3 : ((g.code : Int) == 33) = true := by simp; omega
  have hno0 := hno
  clear hno hc
  clear t1 t2 t3 t4 t5 t6 hd hpos h5 hok
  have HS0 := hide (rts_begin w q s p h)
  obtain ⟨hq, k0, k1, k2, k3, k4, f1, f2, f3, f4⟩ := h.cells
  clear h
  go_enter Tryd.func26, Tryd.ntmps26
  go_wp2_with fail
  generalize ((((w.alloc (.cells #[.int .i64 0, .string ⟨#[]⟩, .int .i64 0, .int .i64 0, .int .i64 0, .int .i64 0] 35)).alloc (.cells #[.int .i64 0, .int .i64 0, .int .i64 0, .int .i64 0] 25)).alloc (.cells #[.int .i64 p.b, .int .i64 p.g, .int .i64 p.l, .int .i64 p.c] 25)).alloc (.cells #[.int .i64 0, .string ⟨#[]⟩, .int .i64 p.b, .int .i64 p.g, .int .i64 p.l, .int .i64 p.c] 35)) = W0 at HS0 ⊢
  clear k0 k1 k2 k3 k4 f1 f2 f3 f4 hq
  generalize w.heap.size = F at HS0 ⊢
  refine (look_any W0 q s p HS0.out.rdr (by omega)).mono ?_
  rintro r W1 ⟨rfl, hb1⟩
  rw [hl]
  have HS1 := hide (HS0.out.below hb1)
  clear hb1 HS0 hl
  have HRK := hide (HS1.out.kind 3)
  have dk0 := HS1.out.cells.d0
  have dkv := HS1.out.cells.v0
  go_wp2_with fail
  refine (rcls_any _ _).mono ?_
  rintro r Wb ⟨rfl, rfl⟩
  go_wp2_with fail
  clear dk0 dkv
  generalize Wb.setCell ⟨F + 1 + 1 + 1, 0, none⟩ (.int .i64 3) = wK at HRK ⊢
  refine (HN.out wK HRK.out.rdr).mono ?_
  rintro r w4 ⟨rfl, ht4, hR4⟩
  have HR4 := hide (HRK.out.move ht4 hR4)
  clear ht4 hR4 HRK HS1
  have e1 := HR4.out.cells.d1
  have e2 := HR4.out.cells.v1
  simp only at e1
  go_wp2_with fail
  refine (look_any w4 q s p2 HR4.out.rdr (by omega)).mono ?_
  rintro r w5 ⟨rfl, hb5⟩
  have HRT := hide (HR4.out.below hb5)
  have hne : (lookS s p2 != 61) = true := by simp [hno0]
  clear hb5 e1 e2 HR4 hno0
  generalize lookS s p2 = lk at hne ⊢
  obtain ⟨a0, a1, a2, a3, a4, a5, b0, b1, b2, b3, c0, c1, c2, c3, d0, d1, d2, d3, d4, d5, x0, x1, x2, x3, x4, x5, y0, y1, y2, y3, v0, v1⟩ := HRT.out.cells
  go_wp2_with fail
  go_region
  go_wp2
  exact rt_ret HRT.out.fin.drew 41 rfl rfl rfl rfl ⟨HRT.out.fin.drew.tq, _, rfl⟩
set_option maxRecDepth 400000 in
set_option maxRecDepth 20000 in
set_option maxHeartbeats 4000000 in
theorem rtoken_pairb (w : World) (q : Nat) (s : ByteArray) (p e : Pl) (g : Gl) (gs : List Gl) (h : Rdr w q s p) (hm : s.size ≤ 4096) (hQ : Snd s p (g :: gs) e) (hok : p.ok) (h5 : gcls g.code = 5) (hc : g.code = 33) (g2 : Gl) (gs2 : List Gl) (hgs : gs = g2 :: gs2) (h61 : g2.code = 61) :
    Calls Tryd.prog 26 #[.pointer (some ⟨q, 0, none⟩)] w fun r w' => Tq w w' q ∧ RtO w' q s e p r (.ok 3 (strOfNums [33, 61]) gs2) := by
  have hl := look_cons hQ
  have hg0 : 0 ≤ (g.code : Int) := by omega
  have n1 : ((g.code : Int) == -1) = false := beq_eq_false_iff_ne.2 (by omega)
  have HQ := hide hQ
  clear hQ
  have q2 : (gcls (g.code : Int) == 2) = false := by rw [h5]; rfl
  have q3 : (gcls (g.code : Int) == 3) = false := by rw [h5]; rfl
  have q5 : (gcls (g.code : Int) == 5) = true := by rw [h5]; rfl
  obtain ⟨t1, t2, t3, t4, t5, t6⟩ := HQ.out.tail
  have HN := hide (fun (W : World) (h : Rdr W q s p) => next_any W q s p h (by omega) t2 hok t4)
  have hd := dec_le s p.b t2
  have HO2 := hide (hok.past (Utf8.decode s p.b).1 (Utf8.decode s p.b).2 hd.1)
  have HS2 := hide t5
  have hpos : (p.past (Utf8.decode s p.b).1 (Utf8.decode s p.b).2).b = p.b + (Utf8.decode s p.b).2 := rfl
  generalize p.past (Utf8.decode s p.b).1 (Utf8.decode s p.b).2 = p2 at HN HO2 HS2 hpos
  have hpos' : p2.b ≤ s.size := by omega
  subst hgs
  have m0 : ((g.code : Int) == 8788) = false := beq_eq_false_iff_ne.2 (by omega)
  have m1 : ((g.code : Int) == 8800) = false := beq_eq_false_iff_ne.2 (by omega)
  have m2 : ((g.code : Int) == 58) = false := beq_eq_false_iff_ne.2 (by omega)
  have m3 : ((g.code : Int) == 33) = true := by simp; omega
  clear hc
  clear t1 t2 t3 t4 t5 t6 hd hpos h5 hok
  have HS0 := hide (rts_begin w q s p h)
  obtain ⟨hq, k0, k1, k2, k3, k4, f1, f2, f3, f4⟩ := h.cells
  clear h
  go_enter Tryd.func26, Tryd.ntmps26
  go_wp2_with fail
  generalize ((((w.alloc (.cells #[.int .i64 0, .string ⟨#[]⟩, .int .i64 0, .int .i64 0, .int .i64 0, .int .i64 0] 35)).alloc (.cells #[.int .i64 0, .int .i64 0, .int .i64 0, .int .i64 0] 25)).alloc (.cells #[.int .i64 p.b, .int .i64 p.g, .int .i64 p.l, .int .i64 p.c] 25)).alloc (.cells #[.int .i64 0, .string ⟨#[]⟩, .int .i64 p.b, .int .i64 p.g, .int .i64 p.l, .int .i64 p.c] 35)) = W0 at HS0 ⊢
  clear k0 k1 k2 k3 k4 f1 f2 f3 f4 hq
  generalize w.heap.size = F at HS0 ⊢
  refine (look_any W0 q s p HS0.out.rdr (by omega)).mono ?_
  rintro r W1 ⟨rfl, hb1⟩
  rw [hl]
  have HS1 := hide (HS0.out.below hb1)
  clear hb1 HS0 hl
  have HRK := hide (HS1.out.kind 3)
  have dk0 := HS1.out.cells.d0
  have dkv := HS1.out.cells.v0
  go_wp2_with fail
  refine (rcls_any _ _).mono ?_
  rintro r Wb ⟨rfl, rfl⟩
  go_wp2_with fail
  clear dk0 dkv
  generalize Wb.setCell ⟨F + 1 + 1 + 1, 0, none⟩ (.int .i64 3) = wK at HRK ⊢
  refine (HN.out wK HRK.out.rdr).mono ?_
  rintro r w4 ⟨rfl, ht4, hR4⟩
  have HR4 := hide (HRK.out.move ht4 hR4)
  clear ht4 hR4 HRK HS1
  have e1 := HR4.out.cells.d1
  have e2 := HR4.out.cells.v1
  simp only at e1
  have hl2 := look_cons HS2.out
  obtain ⟨t1, t2, t3, t4, t5, t6⟩ := HS2.out.tail
  have HN2 := hide (fun (W : World) (h : Rdr W q s p2) => next_any W q s p2 h (by omega) t2 HO2.out t4)
  have hd := dec_le s p2.b t2
  have HO3 := hide (HO2.out.past (Utf8.decode s p2.b).1 (Utf8.decode s p2.b).2 hd.1)
  have HS3 := hide t5
  have hpos : (p2.past (Utf8.decode s p2.b).1 (Utf8.decode s p2.b).2).b = p2.b + (Utf8.decode s p2.b).2 := rfl
  generalize p2.past (Utf8.decode s p2.b).1 (Utf8.decode s p2.b).2 = p3 at HN2 HO3 HS3 hpos
  have hpos3 : p3.b ≤ s.size := by omega
  have hne : ((g2.code : Int) != 61) = false := by rw [h61]; rfl
  clear t1 t2 t3 t4 t5 t6 hd hpos
  go_wp2_with fail
  refine (look_any w4 q s p2 HR4.out.rdr (by omega)).mono ?_
  rintro r w5 ⟨rfl, hb5⟩
  rw [hl2]
  have HR5 := hide (HR4.out.below hb5)
  clear hb5 e1 e2 HR4 hl2
  go_wp2_with fail
  refine (HN2.out w5 HR5.out.rdr).mono ?_
  rintro r w6 ⟨rfl, ht6, hR6⟩
  have HR6 := hide (HR5.out.move ht6 hR6)
  clear ht6 hR6 HR5
  have e1 := HR6.out.cells.d1
  have e2 := HR6.out.cells.v1
  simp only at e1
  go_wp2_with fail
  have HRT := hide ((HR6.out.text ⟨#[58, 61]⟩).text ⟨#[33, 61]⟩)
  simp only at HRT
  clear e1 e2 HR6
  generalize (w6.setCell ⟨F + 1 + 1 + 1, 1, none⟩ (.string ⟨#[58, 61]⟩)).setCell ⟨F + 1 + 1 + 1, 1, none⟩ (.string ⟨#[33, 61]⟩) = wT at HRT ⊢
  obtain ⟨a0, a1, a2, a3, a4, a5, b0, b1, b2, b3, c0, c1, c2, c3, d0, d1, d2, d3, d4, d5, x0, x1, x2, x3, x4, x5, y0, y1, y2, y3, v0, v1⟩ := HRT.out.cells
  go_wp2_with fail
  go_region
  go_wp2
  exact rt_ret HRT.out.fin.drew 0 rfl rfl rfl rfl ⟨HRT.out.fin.drew.tq, rfl, p3, HRT.out.fin.drew.rdr, HS3.out, HO3.out, hpos3⟩
set_option maxRecDepth 400000 in
set_option maxRecDepth 20000 in
set_option maxHeartbeats 4000000 in
theorem rtoken_one (w : World) (q : Nat) (s : ByteArray) (p e : Pl) (g : Gl) (gs : List Gl) (h : Rdr w q s p) (hm : s.size ≤ 4096) (hQ : Snd s p (g :: gs) e) (hok : p.ok) (h5 : gcls g.code = 5) (hc : g.code ≠ 8788 ∧ g.code ≠ 8800 ∧ g.code ≠ 58 ∧ g.code ≠ 33) (d : Nat) (hd0 : gfold g.code = (d : Int)) (hd1 : d < 128) :
    Calls Tryd.prog 26 #[.pointer (some ⟨q, 0, none⟩)] w fun r w' => Tq w w' q ∧ RtO w' q s e p r (.ok 3 (strOfNums [(d : Int)]) gs) := by
  have hl := look_cons hQ
  have hg0 : 0 ≤ (g.code : Int) := by omega
  have n1 : ((g.code : Int) == -1) = false := beq_eq_false_iff_ne.2 (by omega)
  have HQ := hide hQ
  clear hQ
  have q2 : (gcls (g.code : Int) == 2) = false := by rw [h5]; rfl
  have q3 : (gcls (g.code : Int) == 3) = false := by rw [h5]; rfl
  have q5 : (gcls (g.code : Int) == 5) = true := by rw [h5]; rfl
  obtain ⟨t1, t2, t3, t4, t5, t6⟩ := HQ.out.tail
  have HN := hide (fun (W : World) (h : Rdr W q s p) => next_any W q s p h (by omega) t2 hok t4)
  have hd := dec_le s p.b t2
  have HO2 := hide (hok.past (Utf8.decode s p.b).1 (Utf8.decode s p.b).2 hd.1)
  have HS2 := hide t5
  have hpos : (p.past (Utf8.decode s p.b).1 (Utf8.decode s p.b).2).b = p.b + (Utf8.decode s p.b).2 := rfl
  generalize p.past (Utf8.decode s p.b).1 (Utf8.decode s p.b).2 = p2 at HN HO2 HS2 hpos
  have hpos' : p2.b ≤ s.size := by omega
  have m0 : ((g.code : Int) == 8788) = false := beq_eq_false_iff_ne.2 (by omega)
  have m1 : ((g.code : Int) == 8800) = false := beq_eq_false_iff_ne.2 (by omega)
  have m2 : ((g.code : Int) == 58) = false := beq_eq_false_iff_ne.2 (by omega)
  have m3 : ((g.code : Int) == 33) = false := beq_eq_false_iff_ne.2 (by omega)
  clear hc
  have HD0 := hide hd0
  clear hd0
  clear t1 t2 t3 t4 t5 t6 hd hpos h5 hok
  have HS0 := hide (rts_begin w q s p h)
  obtain ⟨hq, k0, k1, k2, k3, k4, f1, f2, f3, f4⟩ := h.cells
  clear h
  go_enter Tryd.func26, Tryd.ntmps26
  go_wp2_with fail
  generalize ((((w.alloc (.cells #[.int .i64 0, .string ⟨#[]⟩, .int .i64 0, .int .i64 0, .int .i64 0, .int .i64 0] 35)).alloc (.cells #[.int .i64 0, .int .i64 0, .int .i64 0, .int .i64 0] 25)).alloc (.cells #[.int .i64 p.b, .int .i64 p.g, .int .i64 p.l, .int .i64 p.c] 25)).alloc (.cells #[.int .i64 0, .string ⟨#[]⟩, .int .i64 p.b, .int .i64 p.g, .int .i64 p.l, .int .i64 p.c] 35)) = W0 at HS0 ⊢
  clear k0 k1 k2 k3 k4 f1 f2 f3 f4 hq
  generalize w.heap.size = F at HS0 ⊢
  refine (look_any W0 q s p HS0.out.rdr (by omega)).mono ?_
  rintro r W1 ⟨rfl, hb1⟩
  rw [hl]
  have HS1 := hide (HS0.out.below hb1)
  clear hb1 HS0 hl
  have HRK := hide (HS1.out.kind 3)
  have dk0 := HS1.out.cells.d0
  have dkv := HS1.out.cells.v0
  go_wp2_with fail
  refine (rcls_any _ _).mono ?_
  rintro r Wb ⟨rfl, rfl⟩
  go_wp2_with fail
  clear dk0 dkv
  generalize Wb.setCell ⟨F + 1 + 1 + 1, 0, none⟩ (.int .i64 3) = wK at HRK ⊢
  refine (HN.out wK HRK.out.rdr).mono ?_
  rintro r w4 ⟨rfl, ht4, hR4⟩
  have HR4 := hide (HRK.out.move ht4 hR4)
  clear ht4 hR4 HRK HS1
  have e1 := HR4.out.cells.d1
  have e2 := HR4.out.cells.v1
  simp only at e1
  go_wp2_with fail
  refine (rfold_any _ _).mono ?_
  rintro r w5 ⟨rfl, rfl⟩
  rw [HD0.out]
  have hr := bys w5 [d.toUInt8] 1 rfl #[.int .u8 (d : Int)] (by simp only [List.map, List.toArray]; rw [Nat.toUInt8, UInt8.toNat_ofNat', Nat.mod_eq_of_lt (by omega)])
  have HR5 := hide (HR4.out.below ((Below.refl _ _).alloc (Nat.le_refl _) (.cells #[.int .u8 (d : Int)] 5)))
  have e3 := HR5.out.cells.d1
  have e4 := HR5.out.cells.v1
  simp only at e3
  go_wp2_with fail
  have HRT := hide (HR5.out.text ⟨#[d.toUInt8]⟩)
  simp only at HRT
  clear e1 e2 e3 e4 HR4 HR5 hr
  generalize (w5.alloc (.cells #[.int .u8 (d : Int)] 5)).setCell ⟨F + 1 + 1 + 1, 1, none⟩ (.string ⟨#[d.toUInt8]⟩) = wT at HRT ⊢
  obtain ⟨a0, a1, a2, a3, a4, a5, b0, b1, b2, b3, c0, c1, c2, c3, d0, d1, d2, d3, d4, d5, x0, x1, x2, x3, x4, x5, y0, y1, y2, y3, v0, v1⟩ := HRT.out.cells
  go_wp2_with fail
  go_region
  go_wp2
  exact rt_ret HRT.out.fin.drew 0 rfl rfl rfl rfl ⟨HRT.out.fin.drew.tq, rfl, p2, HRT.out.fin.drew.rdr, HS2.out, HO2.out, hpos'⟩
end Lm
end Go.Proofs.YtgfglefgpgckiaaDoor

namespace Go.Proofs.YtgfglefgpgckiaaDoor
namespace Lm
open Go Go.RowKit
def skc : Bool → List Nat → List Nat
  | _, [] => []
  | true, c :: cs => skc (decide (c ≠ 10)) cs
  | false, c :: cs => if gcls c = 6 then skc true cs else if gcls c = 1 then skc false cs else c :: cs
def inK (ks : List Int) (c : Nat) : Bool := decide (gcls c ∈ ks)
def bts (l : List UInt8) : ByteArray := ⟨l.toArray⟩
def Stop (ks : List Int) (r : List Nat) : Prop := ∀ c t, r = c :: t → inK ks c = false
inductive TokC : List Nat → Int → ByteArray → List Nat → Prop
  | name (c : Nat) (u r : List Nat) (hc : gcls c = 2) (hu : ∀ d ∈ c :: u, inK [2, 3, 4] d = true) (hr : Stop [2, 3, 4] r) (hl : (c :: u).length ≤ 16) : TokC ((c :: u) ++ r) 1 (bts (encs (c :: u))) r
  | num (c : Nat) (u r : List Nat) (n : Nat) (ds : List Int) (hu : ∀ d ∈ c :: u, inK [3] d = true) (hr : Stop [3] r) (hn : IsLen (dval (bytesOf (bts (encs (c :: u))))) n) (hl : n ≤ 32) (hd : IsDec ds (dval (bytesOf (bts (encs (c :: u)))))) : TokC ((c :: u) ++ r) 2 (strOfNums ds) r
  | two (c : Nat) (x : Int) (r : List Nat) (h : (c = 8788 ∧ x = 58) ∨ (c = 8800 ∧ x = 33)) : TokC ([c] ++ r) 3 (strOfNums [x, 61]) r
  | pair (c : Nat) (r : List Nat) (h : c = 58 ∨ c = 33) : TokC ([c, 61] ++ r) 3 (strOfNums [(c : Int), 61]) r
  | sign (c : Nat) (r : List Nat) (hc : gcls c = 5) (h : c ≠ 8788 ∧ c ≠ 8800 ∧ c ≠ 58 ∧ c ≠ 33) : TokC ([c] ++ r) 3 (strOfNums [gfold c]) r
inductive ScanC : List Nat → List (Int × ByteArray) → Prop
  | done (r : List Nat) (h : skc false r = []) : ScanC r [(0, ⟨#[]⟩)]
  | tok (r : List Nat) (k : Int) (x : ByteArray) (rest : List Nat) (ts : List (Int × ByteArray)) (h : TokC (skc false r) k x rest) (hr : ScanC rest ts) : ScanC r ((k, x) :: ts)
theorem adv_append (p : Pl) (a b : List Nat) : adv p (a ++ b) = adv (adv p a) b := by
  induction a generalizing p with
  | nil => rfl
  | cons c a ih => simp only [List.cons_append, adv, ih]
theorem encs_append (a b : List Nat) : encs (a ++ b) = encs a ++ encs b := by
  induction a with
  | nil => rfl
  | cons c a ih => simp only [List.cons_append, encs, ih, List.append_assoc]
theorem plf_glf (p : Pl) (cs : List Nat) : plf (glf p cs) (adv p cs) = p := by
  cases cs <;> rfl
theorem skp_glf (b : Bool) (p : Pl) (cs : List Nat) : ∃ a, cs = a ++ skc b cs ∧ skp b (glf p cs) = glf (adv p a) (skc b cs) := by
  induction cs generalizing b p with
  | nil => exact ⟨[], by cases b <;> rfl, by cases b <;> rfl⟩
  | cons c cs ih =>
    cases b with
    | true =>
      obtain ⟨a, h1, h2⟩ := ih (decide (c ≠ 10)) (p.past c (encL c).length)
      refine ⟨c :: a, ?_, ?_⟩
      · rw [skc, List.cons_append, ← h1]
      · simp only [glf, skp, skc]
        rw [h2]; rfl
    | false =>
      by_cases h6 : gcls c = 6
      · obtain ⟨a, h1, h2⟩ := ih true (p.past c (encL c).length)
        refine ⟨c :: a, ?_, ?_⟩
        · rw [skc, if_pos h6, List.cons_append, ← h1]
        · simp only [glf, skp, skc]
          rw [if_pos h6, if_pos h6, h2]; rfl
      · by_cases h1c : gcls c = 1
        · obtain ⟨a, h1, h2⟩ := ih false (p.past c (encL c).length)
          refine ⟨c :: a, ?_, ?_⟩
          · rw [skc, if_neg h6, if_pos h1c, List.cons_append, ← h1]
          · simp only [glf, skp, skc]
            rw [if_neg h6, if_pos h1c, if_neg h6, if_pos h1c, h2]; rfl
        · refine ⟨[], ?_, ?_⟩
          · rw [skc, if_neg h6, if_neg h1c]; rfl
          · simp only [glf, skp, skc]
            rw [if_neg h6, if_neg h1c, if_neg h6, if_neg h1c]; rfl
theorem dropWhile_glf (ks : List Int) (p : Pl) (cs : List Nat) : ∃ u r, cs = u ++ r ∧ (glf p cs).dropWhile (inC ks) = glf (adv p u) r ∧ (∀ d ∈ u, inK ks d = true) ∧ Stop ks r := by
  induction cs generalizing p with
  | nil => exact ⟨[], [], rfl, rfl, by simp, by intro c t h; cases h⟩
  | cons c cs ih =>
    by_cases hc : inK ks c = true
    · obtain ⟨u, r, h1, h2, h3, h4⟩ := ih (p.past c (encL c).length)
      refine ⟨c :: u, r, by rw [List.cons_append, ← h1], ?_, ?_, h4⟩
      · rw [glf, List.dropWhile_cons_of_pos (show inC ks ⟨c, p⟩ = true from hc), h2]; rfl
      · intro d hd
        rcases List.mem_cons.1 hd with rfl | hd
        · exact hc
        · exact h3 d hd
    · refine ⟨[], c :: cs, rfl, ?_, by simp, ?_⟩
      · rw [glf, List.dropWhile_cons_of_neg (show ¬ inC ks ⟨c, p⟩ = true from hc)]; rfl
      · intro d t h
        obtain ⟨rfl, rfl⟩ := List.cons.inj h
        simpa using hc
theorem extract_encs (s : ByteArray) (L : List UInt8) (u r : List Nat) (p : Pl) (hp : p.b = L.length) (h : s.data.toList = L ++ encs (u ++ r)) : s.extract p.b (adv p u).b = bts (encs u) := by
  have hd : (s.extract p.b (adv p u).b).data.toList = encs u := by
    rw [ByteArray.data_extract, Array.toList_extract, List.extract_eq_take_drop, h, encs_append, adv_b, hp, List.drop_left, show L.length + (encs u).length - L.length = (encs u).length from by omega, List.take_left]
  cases hx : s.extract p.b (adv p u).b with
  | mk d =>
    rw [hx] at hd
    unfold bts
    rw [← hd]
theorem gsign_cases {c : Nat} (h1 : c ≠ 8788) (h2 : c ≠ 8800) : gfold c ≠ 8788 ∧ gfold c ≠ 8800 := by
  unfold gfold
  repeat' split
  all_goals omega
theorem gfold_58 {c : Nat} : gfold c = 58 ↔ c = 58 := by
  unfold gfold
  repeat' split
  all_goals omega
theorem gfold_33 {c : Nat} : gfold c = 33 ↔ c = 33 := by
  unfold gfold
  repeat' split
  all_goals omega
theorem tokR_C (s : ByteArray) (L : List UInt8) (c : Nat) (t : List Nat) (p : Pl) (hp : p.b = L.length) (h : s.data.toList = L ++ encs (c :: t)) (k : Int) (x : ByteArray) (rest : List Gl)
    (hT : TokR s (adv p (c :: t)) ⟨c, p⟩ (glf (p.past c (encL c).length) t) (.ok k x rest)) : ∃ v r, c :: t = v ++ r ∧ rest = glf (adv p v) r ∧ TokC (c :: t) k x r := by
  unfold TokR at hT
  have hgl : (⟨c, p⟩ : Gl) :: glf (p.past c (encL c).length) t = glf p (c :: t) := rfl
  rw [hgl] at hT
  simp only at hT
  by_cases c2 : gcls c = 2
  · rw [if_pos c2] at hT
    obtain ⟨u, r, h1, h2, h3, h4⟩ := dropWhile_glf [2, 3, 4] p (c :: t)
    have hcu : ∃ u', u = c :: u' := by
      cases u with
      | nil =>
        have := h4 c t (by simpa using h1.symm)
        simp [inK, c2] at this
      | cons d u' =>
        obtain ⟨rfl, _⟩ := List.cons.inj h1
        exact ⟨u', rfl⟩
    obtain ⟨u', rfl⟩ := hcu
    rw [h2] at hT
    by_cases h16 : 16 < (glf p (c :: t)).length - (glf (adv p (c :: u')) r).length
    · rw [if_pos h16] at hT; cases hT
    · rw [if_neg h16] at hT
      injection hT with e1 e2 e3
      subst e1 e3
      rw [glf_len, glf_len] at h16
      have hpe : plf (glf (adv p (c :: u')) r) (adv p (c :: t)) = adv p (c :: u') := by rw [h1, adv_append, plf_glf]
      rw [hpe, extract_encs s L (c :: u') r p hp (by rw [h, h1])] at e2
      refine ⟨c :: u', r, h1, rfl, ?_⟩
      rw [e2, h1]
      refine .name c u' r c2 h3 h4 ?_
      rw [h1, List.length_append] at h16
      omega
  · rw [if_neg c2] at hT
    by_cases c3 : gcls c = 3
    · rw [if_pos c3] at hT
      obtain ⟨n, ds, hn, hd, hT⟩ := hT
      obtain ⟨u, r, h1, h2, h3, h4⟩ := dropWhile_glf [3] p (c :: t)
      have hcu : ∃ u', u = c :: u' := by
        cases u with
        | nil =>
          have := h4 c t (by simpa using h1.symm)
          simp [inK, c3] at this
        | cons d u' =>
          obtain ⟨rfl, _⟩ := List.cons.inj h1
          exact ⟨u', rfl⟩
      obtain ⟨u', rfl⟩ := hcu
      have hpe : plf (glf (adv p (c :: u')) r) (adv p (c :: t)) = adv p (c :: u') := by rw [h1, adv_append, plf_glf]
      rw [h2, hpe, extract_encs s L (c :: u') r p hp (by rw [h, h1])] at hn hd
      rw [h2] at hT
      by_cases h32 : 32 < n
      · rw [if_pos h32] at hT; cases hT
      · rw [if_neg h32] at hT
        injection hT with e1 e2 e3
        subst e1 e3
        refine ⟨c :: u', r, h1, rfl, ?_⟩
        rw [e2, h1]
        exact .num c u' r n ds h3 h4 hn (by omega) hd
    · rw [if_neg c3] at hT
      by_cases c5 : gcls c = 5
      · rw [if_pos c5] at hT
        unfold signS at hT
        by_cases a1 : gfold c = 8788
        · rw [if_pos a1] at hT
          injection hT with e1 e2 e3
          subst e1 e2 e3
          have hc : c = 8788 := by
            unfold gfold at a1
            repeat' split at a1
            all_goals omega
          exact ⟨[c], t, rfl, rfl, .two c 58 t (.inl ⟨hc, rfl⟩)⟩
        rw [if_neg a1] at hT
        by_cases a2 : gfold c = 8800
        · rw [if_pos a2] at hT
          injection hT with e1 e2 e3
          subst e1 e2 e3
          have hc : c = 8800 := by
            unfold gfold at a2
            repeat' split at a2
            all_goals omega
          exact ⟨[c], t, rfl, rfl, .two c 33 t (.inr ⟨hc, rfl⟩)⟩
        rw [if_neg a2] at hT
        by_cases a3 : gfold c = 58 ∨ gfold c = 33
        · rw [if_pos a3] at hT
          cases t with
          | nil => cases hT
          | cons d t =>
            simp only [glf] at hT
            by_cases hd : d = 61
            · rw [if_pos hd] at hT
              injection hT with e1 e2 e3
              subst e1 e2 e3 hd
              have hc : c = 58 ∨ c = 33 := by
                rcases a3 with a | a
                · exact .inl (gfold_58.1 a)
                · exact .inr (gfold_33.1 a)
              have hg : gfold c = (c : Int) := by rcases hc with rfl | rfl <;> rfl
              rw [hg]
              exact ⟨[c, 61], t, rfl, rfl, .pair c t hc⟩
            · rw [if_neg hd] at hT; cases hT
        · rw [if_neg a3] at hT
          injection hT with e1 e2 e3
          subst e1 e2 e3
          refine ⟨[c], t, rfl, rfl, .sign c t c5 ⟨?_, ?_, ?_, ?_⟩⟩
          · rintro rfl; exact a1 rfl
          · rintro rfl; exact a2 rfl
          · rintro rfl; exact a3 (.inl rfl)
          · rintro rfl; exact a3 (.inr rfl)
      · rw [if_neg c5] at hT; cases hT
theorem scanR_C (s : ByteArray) (cs : List Nat) (L : List UInt8) (p : Pl) (hp : p.b = L.length) (h : s.data.toList = L ++ encs cs) (l : List Tk) (hR : ScanR s (adv p cs) (glf p cs) (.ok l)) : ScanC cs (l.map fun t => (t.kind, t.text)) := by
  generalize hg : glf p cs = gs at hR
  generalize he : adv p cs = e at hR
  generalize ho : SO.ok l = o at hR
  induction hR generalizing cs L p l with
  | done r h1 hb =>
    cases ho
    subst hg
    obtain ⟨a, h2, h3⟩ := skp_glf false p cs
    rw [h1] at h3
    refine .done cs ?_
    cases hx : skc false cs with
    | nil => rfl
    | cons c t => rw [hx] at h3; cases h3
  | rune r h1 hb => cases ho
  | bad r g t k h1 ht => cases ho
  | tok r g t kind text rest o h1 ht hr ih =>
    subst hg he
    cases o with
    | bad k p => cases ho
    | ok l' =>
      simp only [SO.pre, SO.ok.injEq] at ho
      subst ho
      obtain ⟨a, h2, h3⟩ := skp_glf false p cs
      rw [h1] at h3
      cases hx : skc false cs with
      | nil => rw [hx] at h3; cases h3
      | cons c t' =>
        rw [hx] at h3 h2
        simp only [glf] at h3
        obtain ⟨rfl, rfl⟩ := List.cons.inj h3
        have hpa : (adv p a).b = (L ++ encs a).length := by rw [adv_b, hp, List.length_append]
        have hsa : s.data.toList = (L ++ encs a) ++ encs (c :: t') := by rw [h, List.append_assoc, ← encs_append, ← h2]
        have hea : adv p cs = adv (adv p a) (c :: t') := by rw [← adv_append, ← h2]
        rw [hea] at ht
        obtain ⟨v, r, h4, rfl, h6⟩ := tokR_C s _ c t' _ hpa hsa _ _ _ ht
        refine .tok cs _ _ r _ (by rw [hx]; exact h6) ?_
        exact ih r ((L ++ encs a) ++ encs v) (adv (adv p a) v) (by rw [adv_b, hpa, ← List.length_append]) (by rw [hsa, h4, encs_append, List.append_assoc, List.append_assoc, List.append_assoc]) l' rfl (by rw [hea, h4, adv_append]) rfl
end Lm
end Go.Proofs.YtgfglefgpgckiaaDoor

namespace Go.Proofs.YtgfglefgpgckiaaDoor
namespace Lm
open Go Go.RowKit
theorem gsign_of {c : Int} (h : gcls c = 5) : gsign (gfold c) := by
  unfold gcls at h
  repeat' split at h
  all_goals first | assumption | omega
end Lm
end Go.Proofs.YtgfglefgpgckiaaDoor

namespace Go.Proofs.YtgfglefgpgckiaaDoor
namespace Lm
open Go Go.RowKit
theorem decN_back {n b0 b1 b2 b3 : Nat} (_h0 : b0 < 256) (_h1 : b1 < 256) (_h2 : b2 < 256) (_h3 : b3 < 256) {c k : Nat} (h : Lib.decodeN n b0 b1 b2 b3 = (c, k)) (hv : (c, k) ≠ (65533, 1)) :
    (k = 1 ∧ c = b0 ∧ c < 128) ∨ (k = 2 ∧ 128 ≤ c ∧ c < 2048 ∧ b0 = 192 + c / 64 ∧ b1 = 128 + c % 64) ∨
    (k = 3 ∧ 2048 ≤ c ∧ c < 65536 ∧ b0 = 224 + c / 4096 ∧ b1 = 128 + c / 64 % 64 ∧ b2 = 128 + c % 64) ∨
    (k = 4 ∧ 65536 ≤ c ∧ c ≤ 1114111 ∧ b0 = 240 + c / 262144 ∧ b1 = 128 + c / 4096 % 64 ∧ b2 = 128 + c / 64 % 64 ∧ b3 = 128 + c % 64) := by
  unfold Lib.decodeN at h
  repeat' split at h
  all_goals try exact absurd h.symm hv
  all_goals (simp only [Prod.mk.injEq] at h; obtain ⟨rfl, rfl⟩ := h)
  · exact .inl (by omega)
  · exact .inr (.inl (by omega))
  · exact .inr (.inr (.inl (by omega)))
  · exact .inr (.inr (.inr (by omega)))
theorem ext_one (s : ByteArray) (i : Nat) (h : i < s.size) (k : Nat) (hk : i + (k + 1) ≤ s.size) : (s.extract i (i + (k + 1))).data.toList = s.get! i :: (s.extract (i + 1) (i + 1 + k)).data.toList := by
  have hl : i < s.data.toList.length := h
  rw [ByteArray.data_extract, ByteArray.data_extract, Array.toList_extract, Array.toList_extract, List.extract_eq_take_drop, List.extract_eq_take_drop, List.drop_eq_getElem_cons hl, show i + (k + 1) - i = k + 1 from by omega, show i + 1 + k - (i + 1) = k from by omega, List.take_succ_cons]
  congr 1
  cases s with
  | mk d => exact (getElem!_pos d i h).symm
theorem ext_nil (s : ByteArray) (i : Nat) : (s.extract i (i + 0)).data.toList = [] := by
  rw [ByteArray.data_extract]; simp
theorem ba_ext {s : ByteArray} {l : List UInt8} (h : s.data.toList = l) : s = ⟨l.toArray⟩ := by
  cases s with
  | mk d => subst h; simp
end Lm
end Go.Proofs.YtgfglefgpgckiaaDoor

