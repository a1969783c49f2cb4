/-
  The given statement on GlyphFirst, for every input: the call answers true, and each argument reads behind it as it read before; and its card. Its condition: the two tables of unicode/utf8 are laid as the row lists them; the card ties that to the program's text. Beside it: What the library's utf8.DecodeRuneInString does, at this program. The glyphs of a text up to its first byte that is part of none: the walk. What the library's strings.Clone does, at this program. The scanner goes past a name. The scanner goes past a number. The scanner goes past a sign. Tokens: what a text's glyphs make. No program is named here. The scanner goes past a token. The scanner goes past a token: the walk. Tokens in memory, and the scanner on its way. What Scan answers, of any text: the walk. What Glyphs answers of any text, the program's and the document's. What every program answers that is one: Scan of one small text. GlyphReads answers true, whatever text it is handed: the walk. A text with a line end and more behind it. No program is named here. What is refused stays refused with a line end and more behind it. No program is named here. GlyphFirst answers true, whatever texts it is handed: the walk.
-/
import Derived.Shelf.Lay
import Derived.Shelf.Unicode.DecodeAny
import Derived.Lib.LaidU8
import Derived.Test.YtnodfclgkalbfabDoorProg
import Derived.Lib.OthersKept
import Derived.Laws.RangeAny
import Derived.Deep.RegionLaw
import Derived.Deep.AppendLies
import Derived.Shelf.Strconv.Clone
import Derived.Laws.Concat
import Derived.SizedLaws
import Derived.Test.YtnodfclgkalbfabDoorRows
import Derived.Test.YtnodfclgkalbfabDoorCards
import Derived.Test.YtnodfclgkalbfabDoorTie
import Derived.ProofKit
import Derived.OpenShut
import Derived.ShutString
import Derived.ChangeOld
import Derived.Lib.SmallJoins
import Derived.Lib.LaidIn
import Derived.Deep.DeepHandedRow
import Derived.Test.YtnodfclgkalbfabDoorGLfLawZ0
namespace Go.Proofs
open Go.Shelf
shelf_lay Lays.n197 Nm 197 at Tryd as Tryd.lays197
namespace YtnodfclgkalbfabDoor
namespace Lm
open Go Go.RowKit
def Tabs (w : World) : Prop := Lib.Utf8Tabs (Tryd.lays197_ren.g 3) (Tryd.lays197_ren.g 4) w
theorem Tabs.below {w w' : World} (h : Tabs w) (hb : Below w.heap.size w w') : Tabs w' := Utf8Tabs_below h hb
theorem decode_any (w : World) (s : ByteArray) (hT : Tabs w) :
    Calls Tryd.prog 29 #[.string s] w fun e w' => e = .returned (.tuple #[.int .i32 (Lib.decodeGo s).1, .int .i64 (Lib.decodeGo s).2]) ∧ Below w.heap.size w w' := Any.utf8_DecodeRuneInString Tryd.lays197 s w hT
end Lm
end YtnodfclgkalbfabDoor
end Go.Proofs

namespace Go.Proofs.YtnodfclgkalbfabDoor
namespace Lm
open Go Go.RowKit
theorem get!_out (s : ByteArray) (k : Nat) (h : s.size ≤ k) : (s.get! k).toNat = 0 := by
  cases s with
  | mk d =>
    have : d[k]! = default := getElem!_neg d k (by simpa [ByteArray.size] using h)
    show (d[k]!).toNat = 0
    rw [this]
    rfl
theorem decodeGo_at (s : ByteArray) (i : Nat) (h : i < s.size) : Lib.decodeGo (s.extract i s.size) = Utf8.decode s i := by
  have hsz : (s.extract i s.size).size = s.size - i := by rw [ByteArray.size_extract]; omega
  rw [Lib.decodeGo, if_neg (by omega), Lib.decode_at, Lib.decode_at, hsz]
  have key : ∀ k, ((s.extract i s.size).get! k).toNat = (s.get! (i + k)).toNat := by
    intro k
    by_cases hk : k < s.size - i
    · have h1 := get!_getD (s.extract i s.size) k (by omega)
      have h2 := get!_getD s (i + k) (by omega)
      rw [bytesOf_extract, List.getD_eq_getElem?_getD, List.getElem?_take_of_lt (by omega), List.getElem?_drop, ← List.getD_eq_getElem?_getD] at h1
      rw [h1] at h2
      exact_mod_cast h2
    · rw [get!_out _ _ (by omega), get!_out _ _ (by omega)]
  simp only [key, Nat.zero_add, Nat.add_zero, Nat.sub_zero]
theorem own_keep {w w' : World} {B : Nat} {e : TypeId} {size n : Nat} {v : Value} {xs : List Value} (h : w.ownsRow B e size v n xs) (hk : ∀ k o, B ≤ k → w.heap[k]? = some o → w'.heap[k]? = some o) : w'.ownsRow B e size v n xs := by
  obtain ⟨hl, h1 | ⟨g, cap, cur, rfl, hb, hh, h2⟩⟩ := h
  · exact ⟨hl, .inl h1⟩
  · exact ⟨hl, .inr ⟨g, cap, cur, rfl, hb, hk g _ hb hh, h2⟩⟩
theorem own_below {w w' : World} {B : Nat} {e : TypeId} {size n : Nat} {v : Value} {xs : List Value} (h : w.ownsRow B e size v n xs) (hb : Below w.heap.size w w') : w'.ownsRow B e size v n xs :=
  own_keep h fun k _ _ hk => (hb.block k (lt_of_heap hk)).trans hk
theorem own_mono {w : World} {B B' : Nat} {e : TypeId} {size n : Nat} {v : Value} {xs : List Value} (h : w.ownsRow B e size v n xs) (hB : B' ≤ B) : w.ownsRow B' e size v n xs := by
  obtain ⟨hl, h1 | ⟨g, cap, cur, rfl, hb, hh, h2⟩⟩ := h
  · exact ⟨hl, .inl h1⟩
  · exact ⟨hl, .inr ⟨g, cap, cur, rfl, Nat.le_trans hB hb, hh, h2⟩⟩
structure Sou (w wr : World) (s : ByteArray) (acc : List Gl) (p : Pl) (pos : Nat) (gv : Value) : Prop where
  own : wr.ownsRow (w.heap.size + 2) 70 6 gv acc.length (gflat acc)
  plc : PlB wr w.heap.size p
  itr : wr.heap[w.heap.size + 1]? = some (.stringIter s pos)
  bel : Below w.heap.size w wr
  siz : w.heap.size + 2 ≤ wr.heap.size
theorem Sou.below {w wr w' : World} {s : ByteArray} {acc : List Gl} {p : Pl} {pos : Nat} {v : Value} (h : Sou w wr s acc p pos v) (hb : Below wr.heap.size wr w') : Sou w w' s acc p pos v :=
  ⟨own_below h.own hb, h.plc.below hb, (hb.block _ (by have := h.siz; omega)).trans h.itr, h.bel.trans (hb.mono h.bel.size), Nat.le_trans h.siz hb.size⟩
theorem Sou.iterAt {w wr : World} {s : ByteArray} {acc : List Gl} {p : Pl} {pos : Nat} {v : Value} (h : Sou w wr s acc p pos v) (pos' : Nat) : Sou w (wr.iterAt (w.heap.size + 1) s pos') s acc p pos' v :=
  ⟨own_keep h.own fun k _ hk he => (Lib.iterAt_other wr _ k s pos' (by omega)).trans he, (Lib.iterAt_other wr _ _ s pos' (by omega)).trans h.plc, Lib.iterAt_heap wr _ s pos pos' h.itr, Lib.below_iterAt h.bel (by omega) s pos', by rw [Lib.iterAt_size]; exact h.siz⟩
theorem Sou.more {w wr w1 : World} {s : ByteArray} {acc : List Gl} {p : Pl} {pos : Nat} {v v' : Value} {g : Gl} (h : Sou w wr s acc p pos v) (hg : wr.grownBy w1 v.ownBlock) (hown : w1.ownsRow (w.heap.size + 2) 70 6 v' (acc ++ [g]).length (gflat (acc ++ [g]))) : Sou w w1 s (acc ++ [g]) p pos v' := by
  have hrow : ∀ k, k < w.heap.size + 2 → some k ≠ v.ownBlock := by
    intro k hk
    obtain ⟨hl, ⟨rfl, _⟩ | ⟨b, cap, cur, rfl, hb, _⟩⟩ := h.own
    · simp [Value.ownBlock]
    · simp only [Value.ownBlock, ne_eq, Option.some.injEq]
      omega
  have hz := h.siz
  exact ⟨hown, (hg.block _ (by omega) (hrow _ (by omega))).trans h.plc, (hg.block _ (by omega) (hrow _ (by omega))).trans h.itr, ⟨hg.os.trans h.bel.os, hg.tape.trans h.bel.tape, hg.output.trans h.bel.output, Nat.le_trans h.bel.size hg.size, fun k hk => (hg.block k (by omega) (hrow k (by omega))).trans (h.bel.block k hk)⟩, Nat.le_trans h.siz hg.size⟩
theorem Sou.place {w wr : World} {s : ByteArray} {acc : List Gl} {p p' : Pl} {pos : Nat} {v : Value} (h : Sou w wr s acc p pos v) : Sou w ((((wr.setCell ⟨w.heap.size, 0, none⟩ (.int .i64 p'.b)).setCell ⟨w.heap.size, 1, none⟩ (.int .i64 p'.g)).setCell ⟨w.heap.size, 2, none⟩ (.int .i64 p'.l)).setCell ⟨w.heap.size, 3, none⟩ (.int .i64 p'.c)) s acc p' pos v := by
  have ho : ∀ k, k ≠ w.heap.size → ((((wr.setCell ⟨w.heap.size, 0, none⟩ (.int .i64 p'.b)).setCell ⟨w.heap.size, 1, none⟩ (.int .i64 p'.g)).setCell ⟨w.heap.size, 2, none⟩ (.int .i64 p'.l)).setCell ⟨w.heap.size, 3, none⟩ (.int .i64 p'.c)).heap[k]? = wr.heap[k]? := by
    intro k hk
    rw [heap_setCell_other _ ⟨w.heap.size, 3, none⟩ k _ hk, heap_setCell_other _ ⟨w.heap.size, 2, none⟩ k _ hk, heap_setCell_other _ ⟨w.heap.size, 1, none⟩ k _ hk, heap_setCell_other _ ⟨w.heap.size, 0, none⟩ k _ hk]
  have hsz : ((((wr.setCell ⟨w.heap.size, 0, none⟩ (.int .i64 p'.b)).setCell ⟨w.heap.size, 1, none⟩ (.int .i64 p'.g)).setCell ⟨w.heap.size, 2, none⟩ (.int .i64 p'.l)).setCell ⟨w.heap.size, 3, none⟩ (.int .i64 p'.c)).heap.size = wr.heap.size := by simp [World.setCell]
  refine ⟨own_keep h.own fun k _ hk he => (ho k (by omega)).trans he, ?_, (ho _ (by omega)).trans h.itr, ⟨h.bel.os, h.bel.tape, h.bel.output, by rw [hsz]; exact h.bel.size, fun k hk => (ho k (by omega)).trans (h.bel.block k hk)⟩, by rw [hsz]; exact h.siz⟩
  unfold PlB
  rw [heap_setCell_same _ _ 3 _ _ _ (heap_setCell_same _ _ 2 _ _ _ (heap_setCell_same _ _ 1 _ _ _ (heap_setCell_same _ _ 0 _ _ _ h.plc)))]
  simp
theorem own_slice {w : World} {B : Nat} {e : TypeId} {size n : Nat} {v : Value} {xs : List Value} (h : w.ownsRow B e size v n xs) : ∃ ao cap, v = .slice ao n cap := by
  obtain ⟨hl, ⟨rfl, rfl⟩ | ⟨g, cap, cur, rfl, _⟩⟩ := h
  · exact ⟨_, _, rfl⟩
  · exact ⟨_, _, rfl⟩
theorem infoG : (Tryd.prog.info? 70).map (fun i => (i.zero, i.size, i.bytes)) = some (some (.agg #[.int .i64 0, .int .i64 0, .int .i64 0, .int .i64 0, .int .i64 0, .int .i64 0]), 6, 48) := by kernel_rfl
theorem info_is {P : Program} {e : TypeId} {z : Value} {n b : Nat} (h : (P.info? e).map (fun i => (i.zero, i.size, i.bytes)) = some (some z, n, b)) : ∃ i, P.info? e = some i ∧ i.zero = some z ∧ i.size = n ∧ i.bytes = b := by
  cases hi : P.info? e with
  | none => rw [hi] at h; cases h
  | some i =>
    rw [hi] at h
    simp only [Option.map_some, Option.some.injEq, Prod.mk.injEq] at h
    exact ⟨i, rfl, h.1, h.2.1, h.2.2⟩
theorem enters_class (args : Array Value) (w : World) : (callFunc 15 args).run Tryd.prog w = .ok (.enter 15 args) w := by
  have h : (match Tryd.prog.funcs[15]? with | some fn => !(fn.name == "runtime.NumGoroutine") && fn.body.isSome | none => false) = true := by kernel_rfl
  cases hf : Tryd.prog.funcs[15]? with
  | none => rw [hf] at h; simp at h
  | some fn =>
    rw [hf] at h
    simp only [Bool.and_eq_true, Bool.not_eq_true', beq_eq_false_iff_ne] at h
    obtain ⟨h1, h2⟩ := h
    have h3 : fn.body ≠ none := by intro hb; rw [hb] at h2; simp at h2
    simp [callFunc, hf, h1, h3]
theorem step_class {ops : Array Oper} {o : Oper} {a : Act} {w : World} {K : Act → World → Prop} {Q : Exit → Act → World → Prop} {E : Prop} (hg : o.guard = none) (x : Operand) (ats : Array TypeId)
    (hop : o.op = .call { callee := .value (.func 15), args := #[x], argTypes := ats }) (c : Int) (hx : a.eval x = .int .i64 c) (hK : K (a.put o.dst (.int .i64 (gcls c))) w) :
    if Region.wanted o (yielded ops a.tmps) = true then Oper.wp Tryd.prog o a w K Q else E := by
  obtain ⟨dst, op, ty, pos, after, guard⟩ := o
  simp only at hop hg
  subst hop hg
  have hw : Region.wanted { dst, op := .call { callee := .value (.func 15), args := #[x], argTypes := ats }, type := ty, pos, after, guard := none } (yielded ops a.tmps) = true := by simp [Region.wanted]
  rw [if_pos hw]
  have e : execOp a.eval { dst, op := .call { callee := .value (.func 15), args := #[x], argTypes := ats }, type := ty, pos, after, guard := none } = callFunc 15 (#[] ++ #[x].map a.eval ++ #[]) := rfl
  unfold Oper.wp
  rw [e, enters_class]
  simp only [Oper.upon]
  have e2 : (#[] ++ #[x].map a.eval ++ #[] : Array Value) = #[.int .i64 c] := by simp [hx]
  rw [e2]
  refine (gcls_any w c).mono ?_
  rintro r w' ⟨rfl, rfl⟩
  exact hK
set_option maxRecDepth 20000 in
set_option maxHeartbeats 2000000 in
theorem sound_any (w : World) (s : ByteArray) (hT : Tabs w) (hs : s.size ≤ 4096) :
    Calls Tryd.prog 16 #[.string s] w fun r w' => ∃ gs e v, Snd s pl0 gs e ∧ r = .returned (.tuple #[v, e.v]) ∧ w'.ownsRow (w.heap.size + 2) 70 6 v gs.length (gflat gs) ∧ Below w.heap.size w w' := by
  go_enter Tryd.func16, Tryd.ntmps16
  go_wp2
  have hS0 : Sou w ((w.alloc (.cells #[.int .i64 0, .int .i64 0, .int .i64 1, .int .i64 1] 26)).iter s 0) s [] pl0 0 (.slice none 0 0) := by
    refine ⟨World.ownsRow_nil _ _ _ _, ?_, ?_, ?_, ?_⟩
    · exact ((Below.refl (w.alloc _).heap.size (w.alloc _)).alloc (Nat.le_refl _) (.stringIter s 0)).block w.heap.size (by simp [World.size_alloc]) |>.trans (heap_alloc_new w _)
    · have := World.iter_heap (w.alloc (.cells #[.int .i64 0, .int .i64 0, .int .i64 1, .int .i64 1] 26)) s 0
      rw [World.size_alloc] at this
      exact this
    · exact ((Below.refl _ _).alloc (Nat.le_refl _) _).alloc (by simp [World.size_alloc]) (.stringIter s 0)
    · show w.heap.size + 2 ≤ ((w.alloc _).alloc (.stringIter s 0)).heap.size
      simp [World.size_alloc]
  generalize (w.alloc (.cells #[.int .i64 0, .int .i64 0, .int .i64 1, .int .i64 1] 26)).iter s 0 = w0 at hS0 ⊢
  have HS0 := hide hS0
  have HT := hide hT
  clear hS0 hT
  go_loopw [2] (fun gv wr => ∃ (acc : List Gl) (p : Pl) (ao : Option Addr) (cap : Nat), gv = .slice ao acc.length cap ∧ Sou w wr s acc p p.b (.slice ao acc.length cap) ∧ p.ok ∧ p.b ≤ s.size ∧ acc.length ≤ p.b ∧ ∀ gs e, Snd s p gs e → Snd s pl0 (acc ++ gs) e) (fun _ wr => s.size - wr.iterPos (w.heap.size + 1))
  case atStart => exact ⟨[], pl0, none, 0, rfl, HS0.out, pl0_ok, Nat.zero_le _, Nat.zero_le _, fun gs e h => h⟩
  case round =>
    obtain ⟨acc, p, ao, cap, rfl, hS, hp, hpb, hal, hpre⟩ := hrel
    have HS := hide hS
    have HP := hide hp
    have HE := hide hpre
    have IP : Hid (wr.iterPos (w.heap.size + 1) = p.b) := by show _ = _; unfold World.iterPos; rw [hS.itr]
    clear hS hp hpre
    by_cases hlt : p.b < s.size
    · have hnext := fun ty => Lib.run_next_any_at (P := Tryd.prog) wr (w.heap.size + 1) s p.b ty HS.out.itr hlt
      have hd := dec_le s p.b hlt
      have htop := dec_top s p.b
      have HDG := hide (decodeGo_at s p.b hlt)
      have HS1 := hide (HS.out.iterAt (p.b + (Utf8.decode s p.b).2))
      have HSG := hide (fun gs e => Snd.go p gs e hlt)
      generalize hdc : Utf8.decode s p.b = dc at *
      have HDC := hide hdc
      clear hdc
      obtain ⟨c, z⟩ := dc
      simp only at hd htop hnext
      generalize wr.iterAt (w.heap.size + 1) s (p.b + z) = w1 at HS1 hnext
      have hlt' : (p.b : Int) < (s.size : Int) := by omega
      go_wp2_with fail
      refine (decode_any _ _ (HT.out.below HS1.out.bel)).mono ?_
      rintro r w2 ⟨rfl, hb2⟩
      rw [HDG.out]
      have HS2 := hide (HS1.out.below hb2)
      clear hb2 hnext HS1
      by_cases hbad : (c, z) = (65533, 1)
      · obtain ⟨rfl, rfl⟩ := Prod.mk.inj hbad
        obtain ⟨hf, p0, p1, p2, p3⟩ := HS2.out.plc.cells
        have f0 := frozen_of_row w2 w.heap.size 0 _ _ HS2.out.plc
        have f1 := frozen_of_row w2 w.heap.size 1 _ _ HS2.out.plc
        have f2 := frozen_of_row w2 w.heap.size 2 _ _ HS2.out.plc
        have f3 := frozen_of_row w2 w.heap.size 3 _ _ HS2.out.plc
        go_wp2_with fail
        go_region
        go_wp2
        refine bodyPost_ret (v := _) (by simp [results, Tryd.results16, go_sem, p0, p1, p2, p3]; try rfl) rfl ⟨acc, p, _, ?_, rfl, ((HS2.out.place (p' := p)).below (by (repeat' (first | (with_reducible exact Below.refl _ _) | (with_reducible assumption) | (with_reducible refine gdrewN ?_ _) | (with_reducible refine Below.alloc ?_ ?_ _) | (with_reducible refine Below.drew ?_) | (with_reducible refine Below.setCell ?_ ?_ _) | go_size)))).own, ((HS2.out.place (p' := p)).below (by (repeat' (first | (with_reducible exact Below.refl _ _) | (with_reducible assumption) | (with_reducible refine gdrewN ?_ _) | (with_reducible refine Below.alloc ?_ ?_ _) | (with_reducible refine Below.drew ?_) | (with_reducible refine Below.setCell ?_ ?_ _) | go_size)))).bel⟩
        have := HE.out [] p (.stop p (.inr ⟨hlt, HDC.out⟩))
        rwa [List.append_nil] at this
      · by_cases h1 : c = 65533
        · subst h1
          have e2 : ((z : Int) == 1) = false := beq_eq_false_iff_ne.2 (by intro hz; exact hbad (by rw [show z = 1 from by omega]))
          obtain ⟨i0, hi0, hz0, hz1, hz2⟩ := info_is infoG
          obtain ⟨hf, p0, p1, p2, p3⟩ := HS2.out.plc.cells
          have hown := HS2.out.own
          have hsz := HS2.out.siz
          have hone : ∀ u ∈ ([.int .i64 65533, .int .i64 (gcls 65533), .int .i64 p.b, .int .i64 p.g, .int .i64 p.l, .int .i64 p.c] : List Value), u.oneCell' = true := by
            intro u hu
            simp only [List.mem_cons, List.not_mem_nil, or_false] at hu
            rcases hu with rfl | rfl | rfl | rfl | rfl | rfl <;> rfl
          go_wp2_with fail
          go_region_law (first | (refine step_class rfl (.tmp 35) #[3] rfl (65533 : Int) (by simp [Act.eval, Act.put]) ?_) | (refine step_append_lies _ rfl (.tmp 33) (.tmp 39) 35 rfl (w.heap.size + 2) 70 i0 _ 6 48 Tryd.underlying35 hi0 hz0 hz1 hz2 rfl (by decide) (.slice ao acc.length cap) acc.length (gflat acc) (by simp [Act.eval]) (own_below hown ((Below.refl _ _).alloc (Nat.le_refl _) _).drew) ⟨w2.heap.size, 0, none⟩ 1 1 [.int .i64 65533, .int .i64 (gcls 65533), .int .i64 p.b, .int .i64 p.g, .int .i64 p.l, .int .i64 p.c] (by simp [Act.eval]) rfl (World.news_of_block (w := (w2.alloc (.cells #[.int .i64 65533, .int .i64 (gcls 65533), .int .i64 p.b, .int .i64 p.g, .int .i64 p.l, .int .i64 p.c] 70)).drew) (heap_alloc_new w2 _)) hone (by omega) (by unfold maxLen; omega) (by omega) (by simp; omega) _ rfl ?_; intro g1 cap1 w3 hown3 hgrow3 hat3 hlt3))
          all_goals
            have HS3 := hide ((HS2.out.below (((Below.refl _ _).alloc (Nat.le_refl _) _).drew)).more (g := ⟨65533, p⟩) hgrow3 (by simpa [gflat_append, gflat] using hown3))
            clear hown3 hgrow3 hat3 hlt3 p0 p1 p2 p3 hf hown hsz hone hi0 hz0 hz1 hz2
            obtain ⟨hf, p0, p1, p2, p3⟩ := HS3.out.plc.cells
            go_wp2_with fail
            refine (behind_any w3 p 65533 z (by have := HP.out.g; have := HP.out.l; have := HP.out.c; omega)).mono ?_
            rintro r w4 ⟨rfl, hb4⟩
            have HS4 := hide (HS3.out.below hb4)
            clear hb4 p0 p1 p2 p3 hf HS3 HS2
            generalize hpp : p.past 65533 z = p' at HS4 ⊢
            have HPP := hide hpp
            clear hpp
            unfold Pl.v
            obtain ⟨hf, p0, p1, p2, p3⟩ := HS4.out.plc.cells
            have f0 := frozen_of_row w4 w.heap.size 0 _ _ HS4.out.plc
            have f1 := frozen_of_row w4 w.heap.size 1 _ _ HS4.out.plc
            have f2 := frozen_of_row w4 w.heap.size 2 _ _ HS4.out.plc
            have f3 := frozen_of_row w4 w.heap.size 3 _ _ HS4.out.plc
            have IP4 := hide ((HS4.out.place (p' := p')).itr)
            go_wp2
            go_roundw
            case rel =>
              have hb' : p'.b = p.b + z := by rw [← HPP.out]; rfl
              refine ⟨acc ++ [⟨65533, p⟩], p', some ⟨g1, 0, none⟩, cap1, by simp, ?_, by rw [← HPP.out]; exact HP.out.past _ _ hd.1, by omega, by simp; omega, ?_⟩
              · have := HS4.out.place (p' := p')
                rw [← hb'] at this
                simpa using this
              · intro gs e h
                rw [List.append_assoc]
                refine HE.out _ _ ?_
                exact HSG.out gs e hbad (by rw [← HPP.out] at h; exact h)
            case measure =>
              rw [IP.out]
              unfold World.iterPos
              rw [IP4.out]
              simp only
              omega
        · have e1 : ((c : Int) == 65533) = false := beq_eq_false_iff_ne.2 (by omega)
          obtain ⟨i0, hi0, hz0, hz1, hz2⟩ := info_is infoG
          obtain ⟨hf, p0, p1, p2, p3⟩ := HS2.out.plc.cells
          have hown := HS2.out.own
          have hsz := HS2.out.siz
          have hone : ∀ u ∈ ([.int .i64 c, .int .i64 (gcls c), .int .i64 p.b, .int .i64 p.g, .int .i64 p.l, .int .i64 p.c] : List Value), u.oneCell' = true := by
            intro u hu
            simp only [List.mem_cons, List.not_mem_nil, or_false] at hu
            rcases hu with rfl | rfl | rfl | rfl | rfl | rfl <;> rfl
          go_wp2_with fail
          go_region_law (first | (refine step_class rfl (.tmp 35) #[3] rfl (c : Int) (by simp [Act.eval, Act.put]) ?_) | (refine step_append_lies _ rfl (.tmp 33) (.tmp 39) 35 rfl (w.heap.size + 2) 70 i0 _ 6 48 Tryd.underlying35 hi0 hz0 hz1 hz2 rfl (by decide) (.slice ao acc.length cap) acc.length (gflat acc) (by simp [Act.eval]) (own_below hown ((Below.refl _ _).alloc (Nat.le_refl _) _).drew) ⟨w2.heap.size, 0, none⟩ 1 1 [.int .i64 c, .int .i64 (gcls c), .int .i64 p.b, .int .i64 p.g, .int .i64 p.l, .int .i64 p.c] (by simp [Act.eval]) rfl (World.news_of_block (w := (w2.alloc (.cells #[.int .i64 c, .int .i64 (gcls c), .int .i64 p.b, .int .i64 p.g, .int .i64 p.l, .int .i64 p.c] 70)).drew) (heap_alloc_new w2 _)) hone (by omega) (by unfold maxLen; omega) (by omega) (by simp; omega) _ rfl ?_; intro g1 cap1 w3 hown3 hgrow3 hat3 hlt3))
          all_goals
            have HS3 := hide ((HS2.out.below (((Below.refl _ _).alloc (Nat.le_refl _) _).drew)).more (g := ⟨c, p⟩) hgrow3 (by simpa [gflat_append, gflat] using hown3))
            clear hown3 hgrow3 hat3 hlt3 p0 p1 p2 p3 hf hown hsz hone hi0 hz0 hz1 hz2
            obtain ⟨hf, p0, p1, p2, p3⟩ := HS3.out.plc.cells
            go_wp2_with fail
            refine (behind_any w3 p c z (by have := HP.out.g; have := HP.out.l; have := HP.out.c; omega)).mono ?_
            rintro r w4 ⟨rfl, hb4⟩
            have HS4 := hide (HS3.out.below hb4)
            clear hb4 p0 p1 p2 p3 hf HS3 HS2
            generalize hpp : p.past c z = p' at HS4 ⊢
            have HPP := hide hpp
            clear hpp
            unfold Pl.v
            obtain ⟨hf, p0, p1, p2, p3⟩ := HS4.out.plc.cells
            have f0 := frozen_of_row w4 w.heap.size 0 _ _ HS4.out.plc
            have f1 := frozen_of_row w4 w.heap.size 1 _ _ HS4.out.plc
            have f2 := frozen_of_row w4 w.heap.size 2 _ _ HS4.out.plc
            have f3 := frozen_of_row w4 w.heap.size 3 _ _ HS4.out.plc
            have IP4 := hide ((HS4.out.place (p' := p')).itr)
            go_wp2
            go_roundw
            case rel =>
              have hb' : p'.b = p.b + z := by rw [← HPP.out]; rfl
              refine ⟨acc ++ [⟨c, p⟩], p', some ⟨g1, 0, none⟩, cap1, by simp, ?_, by rw [← HPP.out]; exact HP.out.past _ _ hd.1, by omega, by simp; omega, ?_⟩
              · have := HS4.out.place (p' := p')
                rw [← hb'] at this
                simpa using this
              · intro gs e h
                rw [List.append_assoc]
                refine HE.out _ _ ?_
                exact HSG.out gs e hbad (by rw [← HPP.out] at h; exact h)
            case measure =>
              rw [IP.out]
              unfold World.iterPos
              rw [IP4.out]
              simp only
              omega
    · have hnext := fun ty => Lib.run_next_end_at (P := Tryd.prog) wr (w.heap.size + 1) s p.b ty HS.out.itr (by omega)
      obtain ⟨hf, p0, p1, p2, p3⟩ := HS.out.plc.cells
      have f0 := frozen_of_row wr w.heap.size 0 _ _ HS.out.plc
      have f1 := frozen_of_row wr w.heap.size 1 _ _ HS.out.plc
      have f2 := frozen_of_row wr w.heap.size 2 _ _ HS.out.plc
      have f3 := frozen_of_row wr w.heap.size 3 _ _ HS.out.plc
      have hlt' : ¬ (p.b : Int) < (s.size : Int) := by omega
      go_wp2_with fail
      go_region
      go_wp2
      refine bodyPost_ret (v := _) (by simp [results, Tryd.results16, go_sem, p0, p1, p2, p3]; try rfl) rfl ⟨acc, p, _, ?_, rfl, ((HS.out.place (p' := p)).below (by (repeat' (first | (with_reducible exact Below.refl _ _) | (with_reducible assumption) | (with_reducible refine gdrewN ?_ _) | (with_reducible refine Below.alloc ?_ ?_ _) | (with_reducible refine Below.drew ?_) | (with_reducible refine Below.setCell ?_ ?_ _) | go_size)))).own, ((HS.out.place (p' := p)).below (by (repeat' (first | (with_reducible exact Below.refl _ _) | (with_reducible assumption) | (with_reducible refine gdrewN ?_ _) | (with_reducible refine Below.alloc ?_ ?_ _) | (with_reducible refine Below.drew ?_) | (with_reducible refine Below.setCell ?_ ?_ _) | go_size)))).bel⟩
      have := HE.out [] p (.stop p (.inl (by omega)))
      rwa [List.append_nil] at this
end Lm
end Go.Proofs.YtnodfclgkalbfabDoor

namespace Go.Proofs
open Go.Shelf
shelf_lay LaysM.n316 Nm 316 at Tryd as Tryd.lays316
namespace YtnodfclgkalbfabDoor
namespace Lm
open Go Go.RowKit
theorem clone_lite (w : World) (s : ByteArray) (h : s.size ≤ 281474976710656) :
    Calls Tryd.prog 47 #[.string s] w fun e w' => e = .returned (.string s) ∧ Below w.heap.size w w' := Any.stringslite_Clone Tryd.lays316 s w h
theorem sclone_any (w : World) (s : ByteArray) (h : s.size ≤ 281474976710656) :
    Calls Tryd.prog 42 #[.string s] w fun e w' => e = .returned (.string s) ∧ Below w.heap.size w w' := by
  go_enter Tryd.func42, Tryd.ntmps42
  go_wp2_with fail
  refine (clone_lite _ _ h).mono ?_
  rintro e w' ⟨rfl, hb⟩
  go_wp2
  go_ret
  exact ⟨rfl, hb⟩
end Lm
end YtnodfclgkalbfabDoor
end Go.Proofs

namespace Go.Proofs.YtnodfclgkalbfabDoor
namespace Lm
open Go Go.RowKit
theorem nums_new (w : World) (zs : List Int) (hl : zs.length ≤ 100) (e : TypeId) : Nums (w.alloc (.cells (zs.map (Value.int .i64)).toArray e)) (.slice (some ⟨w.heap.size, 0, none⟩) zs.length zs.length) zs := by
  refine ⟨_, _, rfl, Nat.le_refl _, by omega, by simp, .inr ⟨w.heap.size, 0, rfl, by simp [World.size_alloc], fun j u hu => ?_⟩⟩
  rw [cell_of_row _ w.heap.size _ _ _ _ (heap_alloc_new w _), Nat.zero_add]
  simpa using hu
def tok0 : Value := .agg #[.int .i64 0, .string ⟨#[]⟩, .int .i64 0, .int .i64 0, .int .i64 0, .int .i64 0]
def Tk0B (w : World) (f : Nat) : Prop := w.heap[f]? = some (.cells #[.int .i64 0, .string ⟨#[]⟩, .int .i64 0, .int .i64 0, .int .i64 0, .int .i64 0] 32 (0, 0))
theorem Tk0B.tq {w w' : World} {f q : Nat} (h : Tk0B w f) (ht : Tq w w' q) (hn : f ≠ q) : Tk0B w' f := (ht.other f (lt_of_heap h) hn).trans h
theorem Tk0B.below {w w' : World} {f : Nat} (h : Tk0B w f) (hb : Below w.heap.size w w') : Tk0B w' f := (hb.block f (lt_of_heap h)).trans h
structure Tk0C (w : World) (f : Nat) : Prop where
  hf : f < w.heap.size
  t0 : w.cell? ⟨f, 0, none⟩ = some (.int .i64 0)
  t1 : w.cell? ⟨f, 1, none⟩ = some (.string ⟨#[]⟩)
  t2 : w.cell? ⟨f, 2, none⟩ = some (.int .i64 0)
  t3 : w.cell? ⟨f, 3, none⟩ = some (.int .i64 0)
  t4 : w.cell? ⟨f, 4, none⟩ = some (.int .i64 0)
  t5 : w.cell? ⟨f, 5, none⟩ = some (.int .i64 0)
  f0 : w.frozen? ⟨f, 0, none⟩ = false
  f1 : w.frozen? ⟨f, 1, none⟩ = false
  f2 : w.frozen? ⟨f, 2, none⟩ = false
  f3 : w.frozen? ⟨f, 3, none⟩ = false
  f4 : w.frozen? ⟨f, 4, none⟩ = false
  f5 : w.frozen? ⟨f, 5, none⟩ = false
theorem Tk0B.cells {w : World} {f : Nat} (h : Tk0B w f) : Tk0C w f := by
  exact ⟨lt_of_heap h, by rw [cell_of_row w f 0 _ _ _ h]; rfl, by rw [cell_of_row w f 1 _ _ _ h]; rfl, by rw [cell_of_row w f 2 _ _ _ h]; rfl, by rw [cell_of_row w f 3 _ _ _ h]; rfl, by rw [cell_of_row w f 4 _ _ _ h]; rfl, by rw [cell_of_row w f 5 _ _ _ h]; rfl, frozen_of_row w f 0 _ _ h, frozen_of_row w f 1 _ _ h, frozen_of_row w f 2 _ _ h, frozen_of_row w f 3 _ _ h, frozen_of_row w f 4 _ _ h, frozen_of_row w f 5 _ _ h⟩
set_option maxRecDepth 20000 in
set_option maxHeartbeats 1000000 in
theorem name_any (w : World) (q : Nat) (s : ByteArray) (v : Value) (gs : List Gl) (i : Nat) (e : Pl) (h : Scn w q s v gs i e) (hn : gs.length ≤ 100000) (hQ : Snd s pl0 gs e) (hs : s.size ≤ 100000) :
    Calls Tryd.prog 31 #[.pointer (some ⟨q, 0, none⟩)] w fun r w' => ∃ j, i ≤ j ∧ gs.drop j = (gs.drop i).dropWhile (inC [2, 3, 4]) ∧ Scn w' q s v gs j e ∧ Tq w w' q ∧ ((16 < j - i ∧ r = .returned (.tuple #[tok0, .int .i64 42])) ∨ (j - i ≤ 16 ∧ r = .returned (.tuple #[.agg #[.int .i64 1, .string (s.extract (plf (gs.drop i) e).b (plf (gs.drop j) e).b), .int .i64 0, .int .i64 0, .int .i64 0, .int .i64 0], .int .i64 0]))) := by
  have H := hide h
  have hq := lt_of_heap h.blk
  clear h
  unfold tok0
  have hb0 : Below w.heap.size w ((w.alloc (.cells #[.int .i64 0, .string ⟨#[]⟩, .int .i64 0, .int .i64 0, .int .i64 0, .int .i64 0] 32)).alloc (.cells #[.int .i64 2, .int .i64 3, .int .i64 4] 3)) := below_two _ _ _
  have ht0 : Tk0B ((w.alloc (.cells #[.int .i64 0, .string ⟨#[]⟩, .int .i64 0, .int .i64 0, .int .i64 0, .int .i64 0] 32)).alloc (.cells #[.int .i64 2, .int .i64 3, .int .i64 4] 3)) w.heap.size := Tk0B.below (heap_alloc_new w _) ((Below.refl _ _).alloc (Nat.le_refl _) _)
  have hN := nums_new (w.alloc (.cells #[.int .i64 0, .string ⟨#[]⟩, .int .i64 0, .int .i64 0, .int .i64 0, .int .i64 0] 32)) [2, 3, 4] (by simp) 3
  simp only [World.size_alloc, List.map, List.length] at hN
  go_enter Tryd.func31, Tryd.ntmps31
  go_wp2_with fail
  refine (run_any _ q s v gs i e (H.out.below hb0) hn _ _ _ [2, 3, 4] hN (by rintro b off n c hv; simp only [Value.slice.injEq, Option.some.injEq, Addr.mk.injEq] at hv; omega) hQ hs).mono ?_
  rintro r w2 ⟨j, hij, hdj, rfl, hS, hT⟩
  have HS := hide hS
  have HT := hide ((Tq.of_below hb0).trans hT)
  have HT0 := hide (ht0.tq hT (by omega))
  clear hS hT hb0 ht0 hN
  have HDJ := hide hdj
  clear hdj
  generalize hf : w.heap.size = f at *
  replace hf : w.heap.size ≤ f := by omega
  have hqf : q ≠ f := by omega
  clear hq
  by_cases hlong : 16 < j - i
  · obtain ⟨hfl, t0, t1, t2, t3, t4, t5, f0, f1, f2, f3, f4, f5⟩ := HT0.out.cells
    have hl' : (16 : Int) < ((j - i : Nat) : Int) := by omega
    go_wp2
    refine bodyPost_ret (v := _) (by simp [results, Tryd.results31, go_sem, t0, t1, t2, t3, t4, t5]; try rfl) rfl ⟨j, hij, HDJ.out, ?_, ?_, .inl ⟨hlong, rfl⟩⟩
    · exact H.out.of_tq (HT.out.setNew hf 0 _ |>.setNew hf 1 _ |>.setNew hf 2 _ |>.setNew hf 3 _ |>.setNew hf 4 _ |>.setNew hf 5 _) ((six_other _ _ _ hqf _ _ _ _ _ _).trans HS.out.blk) HS.out.le
    · exact HT.out.setNew hf 0 _ |>.setNew hf 1 _ |>.setNew hf 2 _ |>.setNew hf 3 _ |>.setNew hf 4 _ |>.setNew hf 5 _
  · have hl' : decide ((16 : Int) < ((j - i : Nat) : Int)) = false := by simp; omega
    go_wp2_with fail
    refine (sclone_any _ _ (by simp; omega)).mono ?_
    rintro r w3 ⟨rfl, hb3⟩
    replace HT0 := hide (HT0.out.below hb3)
    replace HT := hide (HT.out.trans (.of_below hb3))
    replace HS := hide (HS.out.below hb3)
    clear hb3
    obtain ⟨hfl, t0, t1, t2, t3, t4, t5, f0, f1, f2, f3, f4, f5⟩ := HT0.out.cells
    go_wp2
    refine bodyPost_ret (v := _) (by simp [results, Tryd.results31, go_sem, t0, t1, t2, t3, t4, t5]; try rfl) rfl ⟨j, hij, HDJ.out, ?_, ?_, .inr ⟨by omega, rfl⟩⟩
    · exact H.out.of_tq (HT.out.setNew hf 0 _ |>.setNew hf 1 _ |>.setNew hf 2 _ |>.setNew hf 3 _ |>.setNew hf 4 _ |>.setNew hf 5 _) ((six_other _ _ _ hqf _ _ _ _ _ _).trans HS.out.blk) HS.out.le
    · exact HT.out.setNew hf 0 _ |>.setNew hf 1 _ |>.setNew hf 2 _ |>.setNew hf 3 _ |>.setNew hf 4 _ |>.setNew hf 5 _
end Lm
end Go.Proofs.YtnodfclgkalbfabDoor

namespace Go.Proofs.YtnodfclgkalbfabDoor
namespace Lm
open Go Go.RowKit
open Dm (Err Fine)
set_option maxRecDepth 20000 in
set_option maxHeartbeats 1000000 in
theorem number_any (w : World) (q : Nat) (s : ByteArray) (v : Value) (gs : List Gl) (i : Nat) (e : Pl) (h : Scn w q s v gs i e) (hn : gs.length ≤ 100000) (hQ : Snd s pl0 gs e) (hs : s.size ≤ 4096) (hne : (plf (gs.drop i) e).b < (plf ((gs.drop i).dropWhile (inC [3])) e).b) :
    Calls Tryd.prog 32 #[.pointer (some ⟨q, 0, none⟩)] w fun r w' => ∃ j, i ≤ j ∧ gs.drop j = (gs.drop i).dropWhile (inC [3]) ∧ Scn w' q s v gs j e ∧ Tq w w' q ∧ ∃ n ds, IsLen (dval (bytesOf (s.extract (plf (gs.drop i) e).b (plf (gs.drop j) e).b))) n ∧ IsDec ds (dval (bytesOf (s.extract (plf (gs.drop i) e).b (plf (gs.drop j) e).b))) ∧ ((32 < n ∧ r = .returned (.tuple #[tok0, .int .i64 2])) ∨ (n ≤ 32 ∧ r = .returned (.tuple #[.agg #[.int .i64 2, .string (strOfNums ds), .int .i64 0, .int .i64 0, .int .i64 0, .int .i64 0], .int .i64 0]))) := by
  have H := hide h
  have hq := lt_of_heap h.blk
  have hD := hQ.drop pl0_ok (Nat.zero_le _) i h.le
  have hG := hD.1.digits hD.2.1 hD.2.2.2.1
  have HF : Hid (Fine (s.extract (plf (gs.drop i) e).b (plf ((gs.drop i).dropWhile (inC [3])) e).b)) := by
    refine ⟨?_, ?_, hG.1⟩
    · rw [ByteArray.size_extract]; omega
    · rw [ByteArray.size_extract]; omega
  clear h hD hG hne
  unfold tok0
  have hb0 : Below w.heap.size w ((w.alloc (.cells #[.int .i64 0, .string ⟨#[]⟩, .int .i64 0, .int .i64 0, .int .i64 0, .int .i64 0] 32)).alloc (.cells #[.int .i64 3] 3)) := below_two _ _ _
  have ht0 : Tk0B ((w.alloc (.cells #[.int .i64 0, .string ⟨#[]⟩, .int .i64 0, .int .i64 0, .int .i64 0, .int .i64 0] 32)).alloc (.cells #[.int .i64 3] 3)) w.heap.size := Tk0B.below (heap_alloc_new w _) ((Below.refl _ _).alloc (Nat.le_refl _) _)
  have hN := nums_new (w.alloc (.cells #[.int .i64 0, .string ⟨#[]⟩, .int .i64 0, .int .i64 0, .int .i64 0, .int .i64 0] 32)) [3] (by simp) 3
  simp only [World.size_alloc, List.map, List.length] at hN
  go_enter Tryd.func32, Tryd.ntmps32
  go_wp2_with fail
  refine (run_any _ q s v gs i e (H.out.below hb0) hn _ _ _ [3] hN (by rintro b off n c hv; simp only [Value.slice.injEq, Option.some.injEq, Addr.mk.injEq] at hv; omega) hQ (by omega)).mono ?_
  rintro r w2 ⟨j, hij, hdj, rfl, hS, hT⟩
  have HS := hide hS
  have HT := hide ((Tq.of_below hb0).trans hT)
  have HT0 := hide (ht0.tq hT (by omega))
  clear hS hT hb0 ht0 hN
  rw [← hdj] at HF
  have HDJ := hide hdj
  clear hdj
  generalize htx : s.extract (plf (gs.drop i) e).b (plf (gs.drop j) e).b = t at HF ⊢
  have HTX := hide htx
  clear htx
  generalize hf : w.heap.size = f at *
  replace hf : w.heap.size ≤ f := by omega
  have hqf : q ≠ f := by omega
  clear hq
  go_wp2_with fail
  refine (parse_e _ _).mono ?_
  rintro r w3 ⟨hr, hb3⟩
  replace HT0 := hide (HT0.out.below hb3)
  replace HT := hide (HT.out.trans (.of_below hb3))
  replace HS := hide (HS.out.below hb3)
  clear hb3
  rcases hr with ⟨k, hk, rfl⟩ | ⟨_, u, rfl, rs, hO, hC, hV⟩
  · exfalso
    obtain ⟨x1, x2, x3⟩ := HF.out
    rcases hk with hk | hk
    · omega
    · exact hk.2.2 ⟨x1, x3⟩
  obtain ⟨ao, cap, rfl, c1, c2, c3, c4⟩ := hO.sl
  have HO := hide hO
  have HC := hide (And.intro hC hV)
  have hlen : rs.length ≤ 1000000 := by
    have h1 := dval_bounds HF.out.2.2
    rw [bytesOf_length, ← hV] at h1
    have h2 := p10_mono (m := t.size) (n := 5120) HF.out.2.1
    have h3 := gp10_le_pw 5120
    have h4 := canon_len hC (m := 5120) (by omega)
    omega
  clear hO hC hV c4
  by_cases hbig : 32 < rs.length
  · obtain ⟨DS, hds⟩ := gdec_of HF.out.2.2
    have HDS := hide hds
    clear hds
    obtain ⟨hfl, t0, t1, t2, t3, t4, t5, f0, f1, f2, f3, f4, f5⟩ := HT0.out.cells
    have hl' : (32 : Int) < (rs.length : Int) := by omega
    go_wp2
    refine bodyPost_ret (v := _) (by simp [results, Tryd.results32, go_sem, t0, t1, t2, t3, t4, t5]; try rfl) rfl ⟨j, hij, HDJ.out, ?_, ?_, _, DS, by rw [HTX.out]; exact ⟨_, HC.out.1, HC.out.2, rfl⟩, by rw [HTX.out]; exact HDS.out, .inl ⟨hbig, rfl⟩⟩
    · exact H.out.of_tq (HT.out.setNew hf 0 _ |>.setNew hf 1 _ |>.setNew hf 2 _ |>.setNew hf 3 _ |>.setNew hf 4 _ |>.setNew hf 5 _) ((six_other _ _ _ hqf _ _ _ _ _ _).trans HS.out.blk) HS.out.le
    · exact HT.out.setNew hf 0 _ |>.setNew hf 1 _ |>.setNew hf 2 _ |>.setNew hf 3 _ |>.setNew hf 4 _ |>.setNew hf 5 _
  · have hl' : decide ((32 : Int) < (rs.length : Int)) = false := by simp; omega
    go_wp2_with fail
    refine (text_any _ _ _ _ _ HO.out.sl hlen).mono ?_
    rintro r w4 ⟨DS, rfl, hds, hb4⟩
    rw [HC.out.2] at hds
    have HDS := hide hds
    replace HT0 := hide (HT0.out.below hb4)
    replace HT := hide (HT.out.trans (.of_below hb4))
    replace HS := hide (HS.out.below hb4)
    clear hb4 hds
    obtain ⟨hfl, t0, t1, t2, t3, t4, t5, f0, f1, f2, f3, f4, f5⟩ := HT0.out.cells
    go_wp2
    refine bodyPost_ret (v := _) (by simp [results, Tryd.results32, go_sem, t0, t1, t2, t3, t4, t5]; try rfl) rfl ⟨j, hij, HDJ.out, ?_, ?_, _, DS, by rw [HTX.out]; exact ⟨_, HC.out.1, HC.out.2, rfl⟩, by rw [HTX.out]; exact HDS.out, .inr ⟨by omega, rfl⟩⟩
    · exact H.out.of_tq (HT.out.setNew hf 0 _ |>.setNew hf 1 _ |>.setNew hf 2 _ |>.setNew hf 3 _ |>.setNew hf 4 _ |>.setNew hf 5 _) ((six_other _ _ _ hqf _ _ _ _ _ _).trans HS.out.blk) HS.out.le
    · exact HT.out.setNew hf 0 _ |>.setNew hf 1 _ |>.setNew hf 2 _ |>.setNew hf 3 _ |>.setNew hf 4 _ |>.setNew hf 5 _
end Lm
end Go.Proofs.YtnodfclgkalbfabDoor

namespace Go.Proofs.YtnodfclgkalbfabDoor
namespace Lm
open Go Go.RowKit
theorem encode_one {c : Int} (h : 0 ≤ c ∧ c < 128) : Utf8.encode c = strOfNums [c] := by
  obtain ⟨n, rfl⟩ : ∃ n : Nat, c = n := ⟨c.toNat, by omega⟩
  unfold Utf8.encode
  have hv : Utf8.valid (n : Int) = true := by simp [Utf8.valid]; omega
  simp only [hv, if_true]
  rw [if_pos (by omega)]
  rfl
theorem Tq.six {w w' : World} {q f : Nat} (h : Tq w w' q) (hf : w.heap.size ≤ f) (u0 u1 u2 u3 u4 u5 : Value) : Tq w ((((((w'.setCell ⟨f, 0, none⟩ u0).setCell ⟨f, 1, none⟩ u1).setCell ⟨f, 2, none⟩ u2).setCell ⟨f, 3, none⟩ u3).setCell ⟨f, 4, none⟩ u4).setCell ⟨f, 5, none⟩ u5) q :=
  h.setNew hf 0 _ |>.setNew hf 1 _ |>.setNew hf 2 _ |>.setNew hf 3 _ |>.setNew hf 4 _ |>.setNew hf 5 _
set_option maxRecDepth 20000 in
set_option maxHeartbeats 1000000 in
theorem sign_one (w : World) (q : Nat) (s : ByteArray) (v : Value) (gs : List Gl) (i : Nat) (e : Pl) (h : Scn w q s v gs i e) (hn : gs.length ≤ 100000) (g : Gl) (hg : gs[i]? = some g) (c : Int) (hc : gfold g.code = c) (h0 : 0 ≤ c ∧ c < 128) (h1 : c ≠ 58) (h2 : c ≠ 33) :
    Calls Tryd.prog 33 #[.pointer (some ⟨q, 0, none⟩)] w fun r w' => Scn w' q s v gs (i + 1) e ∧ Tq w w' q ∧ r = .returned (.tuple #[.agg #[.int .i64 3, .string (strOfNums [c]), .int .i64 0, .int .i64 0, .int .i64 0, .int .i64 0], .int .i64 0]) := by
  have H := hide h
  have hi : i < gs.length := (List.getElem?_eq_some_iff.1 hg).1
  have hil : (i : Int) < 100000 := by omega
  obtain ⟨ao, cap, rfl⟩ := h.gls.isSlice
  obtain ⟨b, off, rfl, hG⟩ := h.gls.glyph hg
  obtain ⟨hq, k0, k1, k2, k3, k4, k5, k6⟩ := h.cells
  obtain ⟨hb, g0, g1, g2, g3, g4, g5⟩ := hG
  have hfr := h.free 2
  have hi' : (i : Int) < (gs.length : Int) := by omega
  have KF : ∀ w, Calls Tryd.prog 39 #[.int .i64 g.code] w fun e w' => e = .returned (.int .i64 c) ∧ w' = w := fun w => by rw [← hc]; exact gfold_any w _
  have n8788 : (c == 8788) = false := beq_eq_false_iff_ne.2 (by omega)
  have n8800 : (c == 8800) = false := beq_eq_false_iff_ne.2 (by omega)
  have n58 : (c == 58) = false := beq_eq_false_iff_ne.2 (by omega)
  have n33 : (c == 33) = false := beq_eq_false_iff_ne.2 (by omega)
  clear h hg hc k0 k3 k4 k5 k6 g1 g2 g3 g4 g5
  go_enter Tryd.func33, Tryd.ntmps33
  go_wp2_with fail
  go_quiet ((go_at_call 39; exact Calls.quiet_of_same (KF _)))
  go_wp2
  refine bodyPost_ret (v := _) (by simp [results, Tryd.results33, go_sem]; try rfl) rfl ⟨?_, ?_, ?_⟩
  · refine H.out.of_tq (Tq.six ((Tq.of_below (by (repeat' (first | (with_reducible exact Below.refl _ _) | (with_reducible assumption) | (with_reducible refine gdrewN ?_ _) | (with_reducible refine Below.alloc ?_ ?_ _) | (with_reducible refine Below.drew ?_) | (with_reducible refine Below.setCell ?_ ?_ _) | go_size)))).set 2 _) (Nat.le_refl _) _ _ _ _ _ _) ((six_other _ _ _ (by omega) _ _ _ _ _ _).trans ?_) (by omega)
    rw [heap_setCell_same _ q 2 _ _ _ ((Below.block (B := w.heap.size) (by (repeat' (first | (with_reducible exact Below.refl _ _) | (with_reducible assumption) | (with_reducible refine gdrewN ?_ _) | (with_reducible refine Below.alloc ?_ ?_ _) | (with_reducible refine Below.drew ?_) | (with_reducible refine Below.setCell ?_ ?_ _) | go_size))) q hq).trans H.out.blk)]
    simp
  · exact Tq.six ((Tq.of_below (by (repeat' (first | (with_reducible exact Below.refl _ _) | (with_reducible assumption) | (with_reducible refine gdrewN ?_ _) | (with_reducible refine Below.alloc ?_ ?_ _) | (with_reducible refine Below.drew ?_) | (with_reducible refine Below.setCell ?_ ?_ _) | go_size)))).set 2 _) (Nat.le_refl _) _ _ _ _ _ _
  · simp [encode_one h0]
set_option maxRecDepth 20000 in
set_option maxHeartbeats 1000000 in
theorem sign_becomes (w : World) (q : Nat) (s : ByteArray) (v : Value) (gs : List Gl) (i : Nat) (e : Pl) (h : Scn w q s v gs i e) (hn : gs.length ≤ 100000) (g : Gl) (hg : gs[i]? = some g) (c : Int) (hc : gfold g.code = c) (h0 : c = 8788) :
    Calls Tryd.prog 33 #[.pointer (some ⟨q, 0, none⟩)] w fun r w' => Scn w' q s v gs (i + 1) e ∧ Tq w w' q ∧ r = .returned (.tuple #[.agg #[.int .i64 3, .string (strOfNums [58, 61]), .int .i64 0, .int .i64 0, .int .i64 0, .int .i64 0], .int .i64 0]) := by
  have H := hide h
  have hi : i < gs.length := (List.getElem?_eq_some_iff.1 hg).1
  have hil : (i : Int) < 100000 := by omega
  obtain ⟨ao, cap, rfl⟩ := h.gls.isSlice
  obtain ⟨b, off, rfl, hG⟩ := h.gls.glyph hg
  obtain ⟨hq, k0, k1, k2, k3, k4, k5, k6⟩ := h.cells
  obtain ⟨hb, g0, g1, g2, g3, g4, g5⟩ := hG
  have hfr := h.free 2
  have hi' : (i : Int) < (gs.length : Int) := by omega
  have KF : ∀ w, Calls Tryd.prog 39 #[.int .i64 g.code] w fun e w' => e = .returned (.int .i64 c) ∧ w' = w := fun w => by rw [← hc]; exact gfold_any w _
  subst h0
  clear h hg hc k0 k3 k4 k5 k6 g1 g2 g3 g4 g5
  go_enter Tryd.func33, Tryd.ntmps33
  go_wp2_with fail
  go_quiet ((go_at_call 39; exact Calls.quiet_of_same (KF _)))
  go_wp2
  refine bodyPost_ret (v := _) (by simp [results, Tryd.results33, go_sem]; try rfl) rfl ⟨?_, ?_, ?_⟩
  · refine H.out.of_tq (Tq.six ((Tq.of_below (by (repeat' (first | (with_reducible exact Below.refl _ _) | (with_reducible assumption) | (with_reducible refine gdrewN ?_ _) | (with_reducible refine Below.alloc ?_ ?_ _) | (with_reducible refine Below.drew ?_) | (with_reducible refine Below.setCell ?_ ?_ _) | go_size)))).set 2 _) (Nat.le_refl _) _ _ _ _ _ _) ((six_other _ _ _ (by omega) _ _ _ _ _ _).trans ?_) (by omega)
    rw [heap_setCell_same _ q 2 _ _ _ ((Below.block (B := w.heap.size) (by (repeat' (first | (with_reducible exact Below.refl _ _) | (with_reducible assumption) | (with_reducible refine gdrewN ?_ _) | (with_reducible refine Below.alloc ?_ ?_ _) | (with_reducible refine Below.drew ?_) | (with_reducible refine Below.setCell ?_ ?_ _) | go_size))) q hq).trans H.out.blk)]
    simp
  · exact Tq.six ((Tq.of_below (by (repeat' (first | (with_reducible exact Below.refl _ _) | (with_reducible assumption) | (with_reducible refine gdrewN ?_ _) | (with_reducible refine Below.alloc ?_ ?_ _) | (with_reducible refine Below.drew ?_) | (with_reducible refine Below.setCell ?_ ?_ _) | go_size)))).set 2 _) (Nat.le_refl _) _ _ _ _ _ _
  · rfl
set_option maxRecDepth 20000 in
set_option maxHeartbeats 1000000 in
theorem sign_unlike (w : World) (q : Nat) (s : ByteArray) (v : Value) (gs : List Gl) (i : Nat) (e : Pl) (h : Scn w q s v gs i e) (hn : gs.length ≤ 100000) (g : Gl) (hg : gs[i]? = some g) (c : Int) (hc : gfold g.code = c) (h0 : c = 8800) :
    Calls Tryd.prog 33 #[.pointer (some ⟨q, 0, none⟩)] w fun r w' => Scn w' q s v gs (i + 1) e ∧ Tq w w' q ∧ r = .returned (.tuple #[.agg #[.int .i64 3, .string (strOfNums [33, 61]), .int .i64 0, .int .i64 0, .int .i64 0, .int .i64 0], .int .i64 0]) := by
  have H := hide h
  have hi : i < gs.length := (List.getElem?_eq_some_iff.1 hg).1
  have hil : (i : Int) < 100000 := by omega
  obtain ⟨ao, cap, rfl⟩ := h.gls.isSlice
  obtain ⟨b, off, rfl, hG⟩ := h.gls.glyph hg
  obtain ⟨hq, k0, k1, k2, k3, k4, k5, k6⟩ := h.cells
  obtain ⟨hb, g0, g1, g2, g3, g4, g5⟩ := hG
  have hfr := h.free 2
  have hi' : (i : Int) < (gs.length : Int) := by omega
  have KF : ∀ w, Calls Tryd.prog 39 #[.int .i64 g.code] w fun e w' => e = .returned (.int .i64 c) ∧ w' = w := fun w => by rw [← hc]; exact gfold_any w _
  subst h0
  clear h hg hc k0 k3 k4 k5 k6 g1 g2 g3 g4 g5
  go_enter Tryd.func33, Tryd.ntmps33
  go_wp2_with fail
  go_quiet ((go_at_call 39; exact Calls.quiet_of_same (KF _)))
  go_wp2
  refine bodyPost_ret (v := _) (by simp [results, Tryd.results33, go_sem]; try rfl) rfl ⟨?_, ?_, ?_⟩
  · refine H.out.of_tq (Tq.six ((Tq.of_below (by (repeat' (first | (with_reducible exact Below.refl _ _) | (with_reducible assumption) | (with_reducible refine gdrewN ?_ _) | (with_reducible refine Below.alloc ?_ ?_ _) | (with_reducible refine Below.drew ?_) | (with_reducible refine Below.setCell ?_ ?_ _) | go_size)))).set 2 _) (Nat.le_refl _) _ _ _ _ _ _) ((six_other _ _ _ (by omega) _ _ _ _ _ _).trans ?_) (by omega)
    rw [heap_setCell_same _ q 2 _ _ _ ((Below.block (B := w.heap.size) (by (repeat' (first | (with_reducible exact Below.refl _ _) | (with_reducible assumption) | (with_reducible refine gdrewN ?_ _) | (with_reducible refine Below.alloc ?_ ?_ _) | (with_reducible refine Below.drew ?_) | (with_reducible refine Below.setCell ?_ ?_ _) | go_size))) q hq).trans H.out.blk)]
    simp
  · exact Tq.six ((Tq.of_below (by (repeat' (first | (with_reducible exact Below.refl _ _) | (with_reducible assumption) | (with_reducible refine gdrewN ?_ _) | (with_reducible refine Below.alloc ?_ ?_ _) | (with_reducible refine Below.drew ?_) | (with_reducible refine Below.setCell ?_ ?_ _) | go_size)))).set 2 _) (Nat.le_refl _) _ _ _ _ _ _
  · rfl
set_option maxRecDepth 20000 in
set_option maxHeartbeats 1000000 in
theorem sign_colon (w : World) (q : Nat) (s : ByteArray) (v : Value) (gs : List Gl) (i : Nat) (e : Pl) (h : Scn w q s v gs i e) (hn : gs.length ≤ 100000) (g : Gl) (hg : gs[i]? = some g) (c : Int) (hc : gfold g.code = c) (h0 : c = 58) (gn : Gl) (hg2 : gs[i + 1]? = some gn) (he2 : gn.code = 61) :
    Calls Tryd.prog 33 #[.pointer (some ⟨q, 0, none⟩)] w fun r w' => Scn w' q s v gs (i + 2) e ∧ Tq w w' q ∧ r = .returned (.tuple #[.agg #[.int .i64 3, .string (strOfNums [58, 61]), .int .i64 0, .int .i64 0, .int .i64 0, .int .i64 0], .int .i64 0]) := by
  have H := hide h
  have hi : i < gs.length := (List.getElem?_eq_some_iff.1 hg).1
  have hil : (i : Int) < 100000 := by omega
  obtain ⟨ao, cap, rfl⟩ := h.gls.isSlice
  obtain ⟨b, off, rfl, hG⟩ := h.gls.glyph hg
  obtain ⟨hq, k0, k1, k2, k3, k4, k5, k6⟩ := h.cells
  obtain ⟨hb, g0, g1, g2, g3, g4, g5⟩ := hG
  have hfr := h.free 2
  have hi' : (i : Int) < (gs.length : Int) := by omega
  have KF : ∀ w, Calls Tryd.prog 39 #[.int .i64 g.code] w fun e w' => e = .returned (.int .i64 c) ∧ w' = w := fun w => by rw [← hc]; exact gfold_any w _
  subst h0
  clear h hg hc k0 k3 k4 k5 k6 g1 g2 g3 g4 g5
  go_enter Tryd.func33, Tryd.ntmps33
  go_wp2_with fail
  go_quiet ((go_at_call 39; exact Calls.quiet_of_same (KF _)))
  go_wp2_with fail
  generalize hE : Utf8.encode 58 = T
  have HE := hide ((encode_one (c := 58) (by omega)).symm.trans hE)
  have hTs : T.size ≤ 10 := by rw [← HE.out, strOfNums_size]; simp
  have hadd : ∀ w, (Op.stringOp .add T ⟨#[61]⟩).run Tryd.prog w = .ok (.string (T ++ ⟨#[61]⟩)) w := fun w => run_string_add_sum (P := Tryd.prog) w T ⟨#[61]⟩ (by show T.size + 1 ≤ _; omega)
  generalize hU : T ++ (⟨#[61]⟩ : ByteArray) = U at hadd
  have HU := hide hU
  clear hU hTs
  clear hE
  have hbq : Below w.heap.size w ((w.alloc (.cells #[.int .i64 0, .string ⟨#[]⟩, .int .i64 0, .int .i64 0, .int .i64 0, .int .i64 0] 32)).drewN nq) := by (repeat' (first | (with_reducible exact Below.refl _ _) | (with_reducible assumption) | (with_reducible refine gdrewN ?_ _) | (with_reducible refine Below.alloc ?_ ?_ _) | (with_reducible refine Below.drew ?_) | (with_reducible refine Below.setCell ?_ ?_ _) | go_size))
  have HT1 := hide ((Tq.of_below (q := q) hbq).set 2 (.int .i64 ((i : Int) + 1)))
  have HS1 := hide ((H.out.below hbq).set (by omega))
  have HT0 : Hid (Tk0B (((w.alloc (.cells #[.int .i64 0, .string ⟨#[]⟩, .int .i64 0, .int .i64 0, .int .i64 0, .int .i64 0] 32)).drewN nq).setCell ⟨q, 2, none⟩ (.int .i64 ((i : Int) + 1))) w.heap.size) := ((heap_setCell_other _ ⟨q, 2, none⟩ w.heap.size _ (by show w.heap.size ≠ q; omega)).trans (heap_alloc_new w _))
  clear hbq k1 k2 hfr g0 hb
  generalize ((w.alloc (.cells #[.int .i64 0, .string ⟨#[]⟩, .int .i64 0, .int .i64 0, .int .i64 0, .int .i64 0] 32)).drewN nq).setCell ⟨q, 2, none⟩ (.int .i64 ((i : Int) + 1)) = w1 at HT1 HS1 HT0 ⊢
  obtain ⟨m, hm⟩ : ∃ m, m = i + 1 := ⟨_, rfl⟩
  rw [← hm] at HS1 hg2
  obtain ⟨b2, off2, e2, hG2⟩ := HS1.out.gls.glyph hg2
  obtain ⟨rfl, rfl⟩ : b2 = b ∧ off2 = off := by simpa [eq_comm] using e2
  obtain ⟨hq1, k0, k1, k2, k3, k4, k5, k6⟩ := HS1.out.cells
  obtain ⟨hb, g0, g1, g2, g3, g4, g5⟩ := hG2
  rw [he2] at g0
  have hfr := HS1.out.free 2
  obtain ⟨hfl, t0, t1, t2, t3, t4, t5, f0, f1, f2, f3, f4, f5⟩ := HT0.out.cells
  have hi2 : (m : Int) < (gs.length : Int) := by have := (List.getElem?_eq_some_iff.1 hg2).1; omega
  have hne2 : ((m : Int) == (gs.length : Int)) = false := beq_eq_false_iff_ne.2 (by omega)
  have HM := hide hm
  clear e2 k0 k3 k4 k5 k6 g1 g2 g3 g4 g5 hm
  go_wp2_with fail
  go_quiet (fail)
  clear k1 k2 g0 t0 t1 t2 t3 t4 t5 f0 f1 f2 f3 f4 f5 hfr hfl hb hq1
  have hbq : Below w1.heap.size w1 (w1.drewN nq) := by (repeat' (first | (with_reducible exact Below.refl _ _) | (with_reducible assumption) | (with_reducible refine gdrewN ?_ _) | (with_reducible refine Below.alloc ?_ ?_ _) | (with_reducible refine Below.drew ?_) | (with_reducible refine Below.setCell ?_ ?_ _) | go_size))
  replace HT1 := hide (HT1.out.trans (.of_below hbq))
  replace HS1 := hide (HS1.out.below hbq)
  replace HT0 := hide (HT0.out.below hbq)
  clear hbq
  generalize w1.drewN nq = w2 at HT1 HS1 HT0 ⊢
  generalize hf : w.heap.size = f at *
  replace hf : w.heap.size ≤ f := by omega
  have hqf : q ≠ f := by omega
  obtain ⟨hq1, k0, k1, k2, k3, k4, k5, k6⟩ := HS1.out.cells
  have hfr := HS1.out.free 2
  clear k0 k1 k3 k4 k5 k6
  have hml : (m : Int) < 100000 := by omega
  obtain ⟨hfl, t0, t1, t2, t3, t4, t5, f0, f1, f2, f3, f4, f5⟩ := HT0.out.cells
  clear hne2 hg2 he2 hi hil KF
  go_wp2
  refine bodyPost_ret (v := _) (by simp [results, Tryd.results33, go_sem, t0, t1, t2, t3, t4, t5]; try rfl) rfl ⟨?_, ?_, ?_⟩
  · refine H.out.of_tq (Tq.six (HT1.out.set 2 _) hf _ _ _ _ _ _) ((six_other _ _ _ hqf _ _ _ _ _ _).trans ?_) (by have := HM.out; omega)
    rw [heap_setCell_same w2 q 2 _ _ _ HS1.out.blk]
    have := HM.out
    simp
    omega
  · exact Tq.six (HT1.out.set 2 _) hf _ _ _ _ _ _
  · rw [← HU.out, ← HE.out]
    rfl
set_option maxRecDepth 20000 in
set_option maxHeartbeats 1000000 in
theorem sign_colon_other (w : World) (q : Nat) (s : ByteArray) (v : Value) (gs : List Gl) (i : Nat) (e : Pl) (h : Scn w q s v gs i e) (hn : gs.length ≤ 100000) (g : Gl) (hg : gs[i]? = some g) (c : Int) (hc : gfold g.code = c) (h0 : c = 58) (gn : Gl) (hg2 : gs[i + 1]? = some gn) (he2 : gn.code ≠ 61) :
    Calls Tryd.prog 33 #[.pointer (some ⟨q, 0, none⟩)] w fun r w' => Scn w' q s v gs (i + 1) e ∧ Tq w w' q ∧ r = .returned (.tuple #[tok0, .int .i64 41]) := by
  have H := hide h
  have hi : i < gs.length := (List.getElem?_eq_some_iff.1 hg).1
  have hil : (i : Int) < 100000 := by omega
  obtain ⟨ao, cap, rfl⟩ := h.gls.isSlice
  obtain ⟨b, off, rfl, hG⟩ := h.gls.glyph hg
  obtain ⟨hq, k0, k1, k2, k3, k4, k5, k6⟩ := h.cells
  obtain ⟨hb, g0, g1, g2, g3, g4, g5⟩ := hG
  have hfr := h.free 2
  have hi' : (i : Int) < (gs.length : Int) := by omega
  have KF : ∀ w, Calls Tryd.prog 39 #[.int .i64 g.code] w fun e w' => e = .returned (.int .i64 c) ∧ w' = w := fun w => by rw [← hc]; exact gfold_any w _
  subst h0
  clear h hg hc k0 k3 k4 k5 k6 g1 g2 g3 g4 g5
  unfold tok0
  go_enter Tryd.func33, Tryd.ntmps33
  go_wp2_with fail
  go_quiet ((go_at_call 39; exact Calls.quiet_of_same (KF _)))
  go_wp2_with fail
  generalize hE : Utf8.encode 58 = T
  have HE := hide ((encode_one (c := 58) (by omega)).symm.trans hE)
  have hTs : T.size ≤ 10 := by rw [← HE.out, strOfNums_size]; simp
  have hadd : ∀ w, (Op.stringOp .add T ⟨#[61]⟩).run Tryd.prog w = .ok (.string (T ++ ⟨#[61]⟩)) w := fun w => run_string_add_sum (P := Tryd.prog) w T ⟨#[61]⟩ (by show T.size + 1 ≤ _; omega)
  generalize hU : T ++ (⟨#[61]⟩ : ByteArray) = U at hadd
  have HU := hide hU
  clear hU hTs
  clear hE
  have hbq : Below w.heap.size w ((w.alloc (.cells #[.int .i64 0, .string ⟨#[]⟩, .int .i64 0, .int .i64 0, .int .i64 0, .int .i64 0] 32)).drewN nq) := by (repeat' (first | (with_reducible exact Below.refl _ _) | (with_reducible assumption) | (with_reducible refine gdrewN ?_ _) | (with_reducible refine Below.alloc ?_ ?_ _) | (with_reducible refine Below.drew ?_) | (with_reducible refine Below.setCell ?_ ?_ _) | go_size))
  have HT1 := hide ((Tq.of_below (q := q) hbq).set 2 (.int .i64 ((i : Int) + 1)))
  have HS1 := hide ((H.out.below hbq).set (by omega))
  have HT0 : Hid (Tk0B (((w.alloc (.cells #[.int .i64 0, .string ⟨#[]⟩, .int .i64 0, .int .i64 0, .int .i64 0, .int .i64 0] 32)).drewN nq).setCell ⟨q, 2, none⟩ (.int .i64 ((i : Int) + 1))) w.heap.size) := ((heap_setCell_other _ ⟨q, 2, none⟩ w.heap.size _ (by show w.heap.size ≠ q; omega)).trans (heap_alloc_new w _))
  clear hbq k1 k2 hfr g0 hb
  generalize ((w.alloc (.cells #[.int .i64 0, .string ⟨#[]⟩, .int .i64 0, .int .i64 0, .int .i64 0, .int .i64 0] 32)).drewN nq).setCell ⟨q, 2, none⟩ (.int .i64 ((i : Int) + 1)) = w1 at HT1 HS1 HT0 ⊢
  obtain ⟨m, hm⟩ : ∃ m, m = i + 1 := ⟨_, rfl⟩
  rw [← hm] at HS1 hg2
  obtain ⟨b2, off2, e2, hG2⟩ := HS1.out.gls.glyph hg2
  obtain ⟨rfl, rfl⟩ : b2 = b ∧ off2 = off := by simpa [eq_comm] using e2
  obtain ⟨hq1, k0, k1, k2, k3, k4, k5, k6⟩ := HS1.out.cells
  obtain ⟨hb, g0, g1, g2, g3, g4, g5⟩ := hG2
  have hne61 : ((gn.code : Int) != 61) = true := by simp; omega
  have hfr := HS1.out.free 2
  obtain ⟨hfl, t0, t1, t2, t3, t4, t5, f0, f1, f2, f3, f4, f5⟩ := HT0.out.cells
  have hi2 : (m : Int) < (gs.length : Int) := by have := (List.getElem?_eq_some_iff.1 hg2).1; omega
  have hne2 : ((m : Int) == (gs.length : Int)) = false := beq_eq_false_iff_ne.2 (by omega)
  have HM := hide hm
  clear e2 k0 k3 k4 k5 k6 g1 g2 g3 g4 g5 hm
  go_wp2_with fail
  go_quiet (fail)
  clear k1 k2 g0 t0 t1 t2 t3 t4 t5 f0 f1 f2 f3 f4 f5 hfr hfl hb hq1
  have hbq : Below w1.heap.size w1 (w1.drewN nq) := by (repeat' (first | (with_reducible exact Below.refl _ _) | (with_reducible assumption) | (with_reducible refine gdrewN ?_ _) | (with_reducible refine Below.alloc ?_ ?_ _) | (with_reducible refine Below.drew ?_) | (with_reducible refine Below.setCell ?_ ?_ _) | go_size))
  replace HT1 := hide (HT1.out.trans (.of_below hbq))
  replace HS1 := hide (HS1.out.below hbq)
  replace HT0 := hide (HT0.out.below hbq)
  clear hbq
  generalize w1.drewN nq = w2 at HT1 HS1 HT0 ⊢
  generalize hf : w.heap.size = f at *
  replace hf : w.heap.size ≤ f := by omega
  have hqf : q ≠ f := by omega
  obtain ⟨hq1, k0, k1, k2, k3, k4, k5, k6⟩ := HS1.out.cells
  have hfr := HS1.out.free 2
  clear k0 k1 k3 k4 k5 k6
  have hml : (m : Int) < 100000 := by omega
  obtain ⟨hfl, t0, t1, t2, t3, t4, t5, f0, f1, f2, f3, f4, f5⟩ := HT0.out.cells
  clear hne2 hg2 he2 hne61 hi hil KF
  go_wp2
  refine bodyPost_ret (v := _) (by simp [results, Tryd.results33, go_sem, t0, t1, t2, t3, t4, t5]; try rfl) rfl ⟨?_, ?_, ?_⟩
  · refine H.out.of_tq (Tq.six HT1.out hf _ _ _ _ _ _) ((six_other _ _ _ hqf _ _ _ _ _ _).trans ?_) (by have := HM.out; omega)
    rw [HS1.out.blk, HM.out]
  · exact Tq.six HT1.out hf _ _ _ _ _ _
  · rfl
set_option maxRecDepth 20000 in
set_option maxHeartbeats 1000000 in
theorem sign_colon_none (w : World) (q : Nat) (s : ByteArray) (v : Value) (gs : List Gl) (i : Nat) (e : Pl) (h : Scn w q s v gs i e) (hn : gs.length ≤ 100000) (g : Gl) (hg : gs[i]? = some g) (c : Int) (hc : gfold g.code = c) (h0 : c = 58) (hg2 : gs.length ≤ i + 1) :
    Calls Tryd.prog 33 #[.pointer (some ⟨q, 0, none⟩)] w fun r w' => Scn w' q s v gs (i + 1) e ∧ Tq w w' q ∧ r = .returned (.tuple #[tok0, .int .i64 41]) := by
  have H := hide h
  have hi : i < gs.length := (List.getElem?_eq_some_iff.1 hg).1
  have hil : (i : Int) < 100000 := by omega
  obtain ⟨ao, cap, rfl⟩ := h.gls.isSlice
  obtain ⟨b, off, rfl, hG⟩ := h.gls.glyph hg
  obtain ⟨hq, k0, k1, k2, k3, k4, k5, k6⟩ := h.cells
  obtain ⟨hb, g0, g1, g2, g3, g4, g5⟩ := hG
  have hfr := h.free 2
  have hi' : (i : Int) < (gs.length : Int) := by omega
  have KF : ∀ w, Calls Tryd.prog 39 #[.int .i64 g.code] w fun e w' => e = .returned (.int .i64 c) ∧ w' = w := fun w => by rw [← hc]; exact gfold_any w _
  subst h0
  clear h hg hc k0 k3 k4 k5 k6 g1 g2 g3 g4 g5
  unfold tok0
  go_enter Tryd.func33, Tryd.ntmps33
  go_wp2_with fail
  go_quiet ((go_at_call 39; exact Calls.quiet_of_same (KF _)))
  go_wp2_with fail
  generalize hE : Utf8.encode 58 = T
  have HE := hide ((encode_one (c := 58) (by omega)).symm.trans hE)
  have hTs : T.size ≤ 10 := by rw [← HE.out, strOfNums_size]; simp
  have hadd : ∀ w, (Op.stringOp .add T ⟨#[61]⟩).run Tryd.prog w = .ok (.string (T ++ ⟨#[61]⟩)) w := fun w => run_string_add_sum (P := Tryd.prog) w T ⟨#[61]⟩ (by show T.size + 1 ≤ _; omega)
  generalize hU : T ++ (⟨#[61]⟩ : ByteArray) = U at hadd
  have HU := hide hU
  clear hU hTs
  clear hE
  have hbq : Below w.heap.size w ((w.alloc (.cells #[.int .i64 0, .string ⟨#[]⟩, .int .i64 0, .int .i64 0, .int .i64 0, .int .i64 0] 32)).drewN nq) := by (repeat' (first | (with_reducible exact Below.refl _ _) | (with_reducible assumption) | (with_reducible refine gdrewN ?_ _) | (with_reducible refine Below.alloc ?_ ?_ _) | (with_reducible refine Below.drew ?_) | (with_reducible refine Below.setCell ?_ ?_ _) | go_size))
  have HT1 := hide ((Tq.of_below (q := q) hbq).set 2 (.int .i64 ((i : Int) + 1)))
  have HS1 := hide ((H.out.below hbq).set (by omega))
  have HT0 : Hid (Tk0B (((w.alloc (.cells #[.int .i64 0, .string ⟨#[]⟩, .int .i64 0, .int .i64 0, .int .i64 0, .int .i64 0] 32)).drewN nq).setCell ⟨q, 2, none⟩ (.int .i64 ((i : Int) + 1))) w.heap.size) := ((heap_setCell_other _ ⟨q, 2, none⟩ w.heap.size _ (by show w.heap.size ≠ q; omega)).trans (heap_alloc_new w _))
  clear hbq k1 k2 hfr g0 hb
  generalize ((w.alloc (.cells #[.int .i64 0, .string ⟨#[]⟩, .int .i64 0, .int .i64 0, .int .i64 0, .int .i64 0] 32)).drewN nq).setCell ⟨q, 2, none⟩ (.int .i64 ((i : Int) + 1)) = w1 at HT1 HS1 HT0 ⊢
  obtain ⟨m, hm⟩ : ∃ m, m = i + 1 := ⟨_, rfl⟩
  rw [← hm] at HS1
  obtain ⟨hq1, k0, k1, k2, k3, k4, k5, k6⟩ := HS1.out.cells
  obtain ⟨hfl, t0, t1, t2, t3, t4, t5, f0, f1, f2, f3, f4, f5⟩ := HT0.out.cells
  have hne2 : ((m : Int) == (gs.length : Int)) = true := by simp; omega
  have HM := hide hm
  clear k0 k3 k4 k5 k6 hm
  go_wp2_with fail
  go_quiet (fail)
  clear k1 k2 t0 t1 t2 t3 t4 t5 f0 f1 f2 f3 f4 f5 hfl hq1
  have hbq : Below w1.heap.size w1 (w1.drewN nq) := by (repeat' (first | (with_reducible exact Below.refl _ _) | (with_reducible assumption) | (with_reducible refine gdrewN ?_ _) | (with_reducible refine Below.alloc ?_ ?_ _) | (with_reducible refine Below.drew ?_) | (with_reducible refine Below.setCell ?_ ?_ _) | go_size))
  replace HT1 := hide (HT1.out.trans (.of_below hbq))
  replace HS1 := hide (HS1.out.below hbq)
  replace HT0 := hide (HT0.out.below hbq)
  clear hbq
  generalize w1.drewN nq = w2 at HT1 HS1 HT0 ⊢
  generalize hf : w.heap.size = f at *
  replace hf : w.heap.size ≤ f := by omega
  have hqf : q ≠ f := by omega
  obtain ⟨hq1, k0, k1, k2, k3, k4, k5, k6⟩ := HS1.out.cells
  have hfr := HS1.out.free 2
  clear k0 k1 k3 k4 k5 k6
  have hml : (m : Int) < 100001 := by have := HM.out; omega
  obtain ⟨hfl, t0, t1, t2, t3, t4, t5, f0, f1, f2, f3, f4, f5⟩ := HT0.out.cells
  clear hne2 hi hil KF
  go_wp2
  refine bodyPost_ret (v := _) (by simp [results, Tryd.results33, go_sem, t0, t1, t2, t3, t4, t5]; try rfl) rfl ⟨?_, ?_, ?_⟩
  · refine H.out.of_tq (Tq.six HT1.out hf _ _ _ _ _ _) ((six_other _ _ _ hqf _ _ _ _ _ _).trans ?_) (by have := HM.out; omega)
    rw [HS1.out.blk, HM.out]
  · exact Tq.six HT1.out hf _ _ _ _ _ _
  · rfl
set_option maxRecDepth 20000 in
set_option maxHeartbeats 1000000 in
theorem sign_bang (w : World) (q : Nat) (s : ByteArray) (v : Value) (gs : List Gl) (i : Nat) (e : Pl) (h : Scn w q s v gs i e) (hn : gs.length ≤ 100000) (g : Gl) (hg : gs[i]? = some g) (c : Int) (hc : gfold g.code = c) (h0 : c = 33) (gn : Gl) (hg2 : gs[i + 1]? = some gn) (he2 : gn.code = 61) :
    Calls Tryd.prog 33 #[.pointer (some ⟨q, 0, none⟩)] w fun r w' => Scn w' q s v gs (i + 2) e ∧ Tq w w' q ∧ r = .returned (.tuple #[.agg #[.int .i64 3, .string (strOfNums [33, 61]), .int .i64 0, .int .i64 0, .int .i64 0, .int .i64 0], .int .i64 0]) := by
  have H := hide h
  have hi : i < gs.length := (List.getElem?_eq_some_iff.1 hg).1
  have hil : (i : Int) < 100000 := by omega
  obtain ⟨ao, cap, rfl⟩ := h.gls.isSlice
  obtain ⟨b, off, rfl, hG⟩ := h.gls.glyph hg
  obtain ⟨hq, k0, k1, k2, k3, k4, k5, k6⟩ := h.cells
  obtain ⟨hb, g0, g1, g2, g3, g4, g5⟩ := hG
  have hfr := h.free 2
  have hi' : (i : Int) < (gs.length : Int) := by omega
  have KF : ∀ w, Calls Tryd.prog 39 #[.int .i64 g.code] w fun e w' => e = .returned (.int .i64 c) ∧ w' = w := fun w => by rw [← hc]; exact gfold_any w _
  subst h0
  clear h hg hc k0 k3 k4 k5 k6 g1 g2 g3 g4 g5
  go_enter Tryd.func33, Tryd.ntmps33
  go_wp2_with fail
  go_quiet ((go_at_call 39; exact Calls.quiet_of_same (KF _)))
  go_wp2_with fail
  generalize hE : Utf8.encode 33 = T
  have HE := hide ((encode_one (c := 33) (by omega)).symm.trans hE)
  have hTs : T.size ≤ 10 := by rw [← HE.out, strOfNums_size]; simp
  have hadd : ∀ w, (Op.stringOp .add T ⟨#[61]⟩).run Tryd.prog w = .ok (.string (T ++ ⟨#[61]⟩)) w := fun w => run_string_add_sum (P := Tryd.prog) w T ⟨#[61]⟩ (by show T.size + 1 ≤ _; omega)
  generalize hU : T ++ (⟨#[61]⟩ : ByteArray) = U at hadd
  have HU := hide hU
  clear hU hTs
  clear hE
  have hbq : Below w.heap.size w ((w.alloc (.cells #[.int .i64 0, .string ⟨#[]⟩, .int .i64 0, .int .i64 0, .int .i64 0, .int .i64 0] 32)).drewN nq) := by (repeat' (first | (with_reducible exact Below.refl _ _) | (with_reducible assumption) | (with_reducible refine gdrewN ?_ _) | (with_reducible refine Below.alloc ?_ ?_ _) | (with_reducible refine Below.drew ?_) | (with_reducible refine Below.setCell ?_ ?_ _) | go_size))
  have HT1 := hide ((Tq.of_below (q := q) hbq).set 2 (.int .i64 ((i : Int) + 1)))
  have HS1 := hide ((H.out.below hbq).set (by omega))
  have HT0 : Hid (Tk0B (((w.alloc (.cells #[.int .i64 0, .string ⟨#[]⟩, .int .i64 0, .int .i64 0, .int .i64 0, .int .i64 0] 32)).drewN nq).setCell ⟨q, 2, none⟩ (.int .i64 ((i : Int) + 1))) w.heap.size) := ((heap_setCell_other _ ⟨q, 2, none⟩ w.heap.size _ (by show w.heap.size ≠ q; omega)).trans (heap_alloc_new w _))
  clear hbq k1 k2 hfr g0 hb
  generalize ((w.alloc (.cells #[.int .i64 0, .string ⟨#[]⟩, .int .i64 0, .int .i64 0, .int .i64 0, .int .i64 0] 32)).drewN nq).setCell ⟨q, 2, none⟩ (.int .i64 ((i : Int) + 1)) = w1 at HT1 HS1 HT0 ⊢
  obtain ⟨m, hm⟩ : ∃ m, m = i + 1 := ⟨_, rfl⟩
  rw [← hm] at HS1 hg2
  obtain ⟨b2, off2, e2, hG2⟩ := HS1.out.gls.glyph hg2
  obtain ⟨rfl, rfl⟩ : b2 = b ∧ off2 = off := by simpa [eq_comm] using e2
  obtain ⟨hq1, k0, k1, k2, k3, k4, k5, k6⟩ := HS1.out.cells
  obtain ⟨hb, g0, g1, g2, g3, g4, g5⟩ := hG2
  rw [he2] at g0
  have hfr := HS1.out.free 2
  obtain ⟨hfl, t0, t1, t2, t3, t4, t5, f0, f1, f2, f3, f4, f5⟩ := HT0.out.cells
  have hi2 : (m : Int) < (gs.length : Int) := by have := (List.getElem?_eq_some_iff.1 hg2).1; omega
  have hne2 : ((m : Int) == (gs.length : Int)) = false := beq_eq_false_iff_ne.2 (by omega)
  have HM := hide hm
  clear e2 k0 k3 k4 k5 k6 g1 g2 g3 g4 g5 hm
  go_wp2_with fail
  go_quiet (fail)
  clear k1 k2 g0 t0 t1 t2 t3 t4 t5 f0 f1 f2 f3 f4 f5 hfr hfl hb hq1
  have hbq : Below w1.heap.size w1 (w1.drewN nq) := by (repeat' (first | (with_reducible exact Below.refl _ _) | (with_reducible assumption) | (with_reducible refine gdrewN ?_ _) | (with_reducible refine Below.alloc ?_ ?_ _) | (with_reducible refine Below.drew ?_) | (with_reducible refine Below.setCell ?_ ?_ _) | go_size))
  replace HT1 := hide (HT1.out.trans (.of_below hbq))
  replace HS1 := hide (HS1.out.below hbq)
  replace HT0 := hide (HT0.out.below hbq)
  clear hbq
  generalize w1.drewN nq = w2 at HT1 HS1 HT0 ⊢
  generalize hf : w.heap.size = f at *
  replace hf : w.heap.size ≤ f := by omega
  have hqf : q ≠ f := by omega
  obtain ⟨hq1, k0, k1, k2, k3, k4, k5, k6⟩ := HS1.out.cells
  have hfr := HS1.out.free 2
  clear k0 k1 k3 k4 k5 k6
  have hml : (m : Int) < 100000 := by omega
  obtain ⟨hfl, t0, t1, t2, t3, t4, t5, f0, f1, f2, f3, f4, f5⟩ := HT0.out.cells
  clear hne2 hg2 he2 hi hil KF
  go_wp2
  refine bodyPost_ret (v := _) (by simp [results, Tryd.results33, go_sem, t0, t1, t2, t3, t4, t5]; try rfl) rfl ⟨?_, ?_, ?_⟩
  · refine H.out.of_tq (Tq.six (HT1.out.set 2 _) hf _ _ _ _ _ _) ((six_other _ _ _ hqf _ _ _ _ _ _).trans ?_) (by have := HM.out; omega)
    rw [heap_setCell_same w2 q 2 _ _ _ HS1.out.blk]
    have := HM.out
    simp
    omega
  · exact Tq.six (HT1.out.set 2 _) hf _ _ _ _ _ _
  · rw [← HU.out, ← HE.out]
    rfl
set_option maxRecDepth 20000 in
set_option maxHeartbeats 1000000 in
theorem sign_bang_other (w : World) (q : Nat) (s : ByteArray) (v : Value) (gs : List Gl) (i : Nat) (e : Pl) (h : Scn w q s v gs i e) (hn : gs.length ≤ 100000) (g : Gl) (hg : gs[i]? = some g) (c : Int) (hc : gfold g.code = c) (h0 : c = 33) (gn : Gl) (hg2 : gs[i + 1]? = some gn) (he2 : gn.code ≠ 61) :
    Calls Tryd.prog 33 #[.pointer (some ⟨q, 0, none⟩)] w fun r w' => Scn w' q s v gs (i + 1) e ∧ Tq w w' q ∧ r = .returned (.tuple #[tok0, .int .i64 41]) := by
  have H := hide h
  have hi : i < gs.length := (List.getElem?_eq_some_iff.1 hg).1
  have hil : (i : Int) < 100000 := by omega
  obtain ⟨ao, cap, rfl⟩ := h.gls.isSlice
  obtain ⟨b, off, rfl, hG⟩ := h.gls.glyph hg
  obtain ⟨hq, k0, k1, k2, k3, k4, k5, k6⟩ := h.cells
  obtain ⟨hb, g0, g1, g2, g3, g4, g5⟩ := hG
  have hfr := h.free 2
  have hi' : (i : Int) < (gs.length : Int) := by omega
  have KF : ∀ w, Calls Tryd.prog 39 #[.int .i64 g.code] w fun e w' => e = .returned (.int .i64 c) ∧ w' = w := fun w => by rw [← hc]; exact gfold_any w _
  subst h0
  clear h hg hc k0 k3 k4 k5 k6 g1 g2 g3 g4 g5
  unfold tok0
  go_enter Tryd.func33, Tryd.ntmps33
  go_wp2_with fail
  go_quiet ((go_at_call 39; exact Calls.quiet_of_same (KF _)))
  go_wp2_with fail
  generalize hE : Utf8.encode 33 = T
  have HE := hide ((encode_one (c := 33) (by omega)).symm.trans hE)
  have hTs : T.size ≤ 10 := by rw [← HE.out, strOfNums_size]; simp
  have hadd : ∀ w, (Op.stringOp .add T ⟨#[61]⟩).run Tryd.prog w = .ok (.string (T ++ ⟨#[61]⟩)) w := fun w => run_string_add_sum (P := Tryd.prog) w T ⟨#[61]⟩ (by show T.size + 1 ≤ _; omega)
  generalize hU : T ++ (⟨#[61]⟩ : ByteArray) = U at hadd
  have HU := hide hU
  clear hU hTs
  clear hE
  have hbq : Below w.heap.size w ((w.alloc (.cells #[.int .i64 0, .string ⟨#[]⟩, .int .i64 0, .int .i64 0, .int .i64 0, .int .i64 0] 32)).drewN nq) := by (repeat' (first | (with_reducible exact Below.refl _ _) | (with_reducible assumption) | (with_reducible refine gdrewN ?_ _) | (with_reducible refine Below.alloc ?_ ?_ _) | (with_reducible refine Below.drew ?_) | (with_reducible refine Below.setCell ?_ ?_ _) | go_size))
  have HT1 := hide ((Tq.of_below (q := q) hbq).set 2 (.int .i64 ((i : Int) + 1)))
  have HS1 := hide ((H.out.below hbq).set (by omega))
  have HT0 : Hid (Tk0B (((w.alloc (.cells #[.int .i64 0, .string ⟨#[]⟩, .int .i64 0, .int .i64 0, .int .i64 0, .int .i64 0] 32)).drewN nq).setCell ⟨q, 2, none⟩ (.int .i64 ((i : Int) + 1))) w.heap.size) := ((heap_setCell_other _ ⟨q, 2, none⟩ w.heap.size _ (by show w.heap.size ≠ q; omega)).trans (heap_alloc_new w _))
  clear hbq k1 k2 hfr g0 hb
  generalize ((w.alloc (.cells #[.int .i64 0, .string ⟨#[]⟩, .int .i64 0, .int .i64 0, .int .i64 0, .int .i64 0] 32)).drewN nq).setCell ⟨q, 2, none⟩ (.int .i64 ((i : Int) + 1)) = w1 at HT1 HS1 HT0 ⊢
  obtain ⟨m, hm⟩ : ∃ m, m = i + 1 := ⟨_, rfl⟩
  rw [← hm] at HS1 hg2
  obtain ⟨b2, off2, e2, hG2⟩ := HS1.out.gls.glyph hg2
  obtain ⟨rfl, rfl⟩ : b2 = b ∧ off2 = off := by simpa [eq_comm] using e2
  obtain ⟨hq1, k0, k1, k2, k3, k4, k5, k6⟩ := HS1.out.cells
  obtain ⟨hb, g0, g1, g2, g3, g4, g5⟩ := hG2
  have hne61 : ((gn.code : Int) != 61) = true := by simp; omega
  have hfr := HS1.out.free 2
  obtain ⟨hfl, t0, t1, t2, t3, t4, t5, f0, f1, f2, f3, f4, f5⟩ := HT0.out.cells
  have hi2 : (m : Int) < (gs.length : Int) := by have := (List.getElem?_eq_some_iff.1 hg2).1; omega
  have hne2 : ((m : Int) == (gs.length : Int)) = false := beq_eq_false_iff_ne.2 (by omega)
  have HM := hide hm
  clear e2 k0 k3 k4 k5 k6 g1 g2 g3 g4 g5 hm
  go_wp2_with fail
  go_quiet (fail)
  clear k1 k2 g0 t0 t1 t2 t3 t4 t5 f0 f1 f2 f3 f4 f5 hfr hfl hb hq1
  have hbq : Below w1.heap.size w1 (w1.drewN nq) := by (repeat' (first | (with_reducible exact Below.refl _ _) | (with_reducible assumption) | (with_reducible refine gdrewN ?_ _) | (with_reducible refine Below.alloc ?_ ?_ _) | (with_reducible refine Below.drew ?_) | (with_reducible refine Below.setCell ?_ ?_ _) | go_size))
  replace HT1 := hide (HT1.out.trans (.of_below hbq))
  replace HS1 := hide (HS1.out.below hbq)
  replace HT0 := hide (HT0.out.below hbq)
  clear hbq
  generalize w1.drewN nq = w2 at HT1 HS1 HT0 ⊢
  generalize hf : w.heap.size = f at *
  replace hf : w.heap.size ≤ f := by omega
  have hqf : q ≠ f := by omega
  obtain ⟨hq1, k0, k1, k2, k3, k4, k5, k6⟩ := HS1.out.cells
  have hfr := HS1.out.free 2
  clear k0 k1 k3 k4 k5 k6
  have hml : (m : Int) < 100000 := by omega
  obtain ⟨hfl, t0, t1, t2, t3, t4, t5, f0, f1, f2, f3, f4, f5⟩ := HT0.out.cells
  clear hne2 hg2 he2 hne61 hi hil KF
  go_wp2
  refine bodyPost_ret (v := _) (by simp [results, Tryd.results33, go_sem, t0, t1, t2, t3, t4, t5]; try rfl) rfl ⟨?_, ?_, ?_⟩
  · refine H.out.of_tq (Tq.six HT1.out hf _ _ _ _ _ _) ((six_other _ _ _ hqf _ _ _ _ _ _).trans ?_) (by have := HM.out; omega)
    rw [HS1.out.blk, HM.out]
  · exact Tq.six HT1.out hf _ _ _ _ _ _
  · rfl
set_option maxRecDepth 20000 in
set_option maxHeartbeats 1000000 in
theorem sign_bang_none (w : World) (q : Nat) (s : ByteArray) (v : Value) (gs : List Gl) (i : Nat) (e : Pl) (h : Scn w q s v gs i e) (hn : gs.length ≤ 100000) (g : Gl) (hg : gs[i]? = some g) (c : Int) (hc : gfold g.code = c) (h0 : c = 33) (hg2 : gs.length ≤ i + 1) :
    Calls Tryd.prog 33 #[.pointer (some ⟨q, 0, none⟩)] w fun r w' => Scn w' q s v gs (i + 1) e ∧ Tq w w' q ∧ r = .returned (.tuple #[tok0, .int .i64 41]) := by
  have H := hide h
  have hi : i < gs.length := (List.getElem?_eq_some_iff.1 hg).1
  have hil : (i : Int) < 100000 := by omega
  obtain ⟨ao, cap, rfl⟩ := h.gls.isSlice
  obtain ⟨b, off, rfl, hG⟩ := h.gls.glyph hg
  obtain ⟨hq, k0, k1, k2, k3, k4, k5, k6⟩ := h.cells
  obtain ⟨hb, g0, g1, g2, g3, g4, g5⟩ := hG
  have hfr := h.free 2
  have hi' : (i : Int) < (gs.length : Int) := by omega
  have KF : ∀ w, Calls Tryd.prog 39 #[.int .i64 g.code] w fun e w' => e = .returned (.int .i64 c) ∧ w' = w := fun w => by rw [← hc]; exact gfold_any w _
  subst h0
  clear h hg hc k0 k3 k4 k5 k6 g1 g2 g3 g4 g5
  unfold tok0
  go_enter Tryd.func33, Tryd.ntmps33
  go_wp2_with fail
  go_quiet ((go_at_call 39; exact Calls.quiet_of_same (KF _)))
  go_wp2_with fail
  generalize hE : Utf8.encode 33 = T
  have HE := hide ((encode_one (c := 33) (by omega)).symm.trans hE)
  have hTs : T.size ≤ 10 := by rw [← HE.out, strOfNums_size]; simp
  have hadd : ∀ w, (Op.stringOp .add T ⟨#[61]⟩).run Tryd.prog w = .ok (.string (T ++ ⟨#[61]⟩)) w := fun w => run_string_add_sum (P := Tryd.prog) w T ⟨#[61]⟩ (by show T.size + 1 ≤ _; omega)
  generalize hU : T ++ (⟨#[61]⟩ : ByteArray) = U at hadd
  have HU := hide hU
  clear hU hTs
  clear hE
  have hbq : Below w.heap.size w ((w.alloc (.cells #[.int .i64 0, .string ⟨#[]⟩, .int .i64 0, .int .i64 0, .int .i64 0, .int .i64 0] 32)).drewN nq) := by (repeat' (first | (with_reducible exact Below.refl _ _) | (with_reducible assumption) | (with_reducible refine gdrewN ?_ _) | (with_reducible refine Below.alloc ?_ ?_ _) | (with_reducible refine Below.drew ?_) | (with_reducible refine Below.setCell ?_ ?_ _) | go_size))
  have HT1 := hide ((Tq.of_below (q := q) hbq).set 2 (.int .i64 ((i : Int) + 1)))
  have HS1 := hide ((H.out.below hbq).set (by omega))
  have HT0 : Hid (Tk0B (((w.alloc (.cells #[.int .i64 0, .string ⟨#[]⟩, .int .i64 0, .int .i64 0, .int .i64 0, .int .i64 0] 32)).drewN nq).setCell ⟨q, 2, none⟩ (.int .i64 ((i : Int) + 1))) w.heap.size) := ((heap_setCell_other _ ⟨q, 2, none⟩ w.heap.size _ (by show w.heap.size ≠ q; omega)).trans (heap_alloc_new w _))
  clear hbq k1 k2 hfr g0 hb
  generalize ((w.alloc (.cells #[.int .i64 0, .string ⟨#[]⟩, .int .i64 0, .int .i64 0, .int .i64 0, .int .i64 0] 32)).drewN nq).setCell ⟨q, 2, none⟩ (.int .i64 ((i : Int) + 1)) = w1 at HT1 HS1 HT0 ⊢
  obtain ⟨m, hm⟩ : ∃ m, m = i + 1 := ⟨_, rfl⟩
  rw [← hm] at HS1
  obtain ⟨hq1, k0, k1, k2, k3, k4, k5, k6⟩ := HS1.out.cells
  obtain ⟨hfl, t0, t1, t2, t3, t4, t5, f0, f1, f2, f3, f4, f5⟩ := HT0.out.cells
  have hne2 : ((m : Int) == (gs.length : Int)) = true := by simp; omega
  have HM := hide hm
  clear k0 k3 k4 k5 k6 hm
  go_wp2_with fail
  go_quiet (fail)
  clear k1 k2 t0 t1 t2 t3 t4 t5 f0 f1 f2 f3 f4 f5 hfl hq1
  have hbq : Below w1.heap.size w1 (w1.drewN nq) := by (repeat' (first | (with_reducible exact Below.refl _ _) | (with_reducible assumption) | (with_reducible refine gdrewN ?_ _) | (with_reducible refine Below.alloc ?_ ?_ _) | (with_reducible refine Below.drew ?_) | (with_reducible refine Below.setCell ?_ ?_ _) | go_size))
  replace HT1 := hide (HT1.out.trans (.of_below hbq))
  replace HS1 := hide (HS1.out.below hbq)
  replace HT0 := hide (HT0.out.below hbq)
  clear hbq
  generalize w1.drewN nq = w2 at HT1 HS1 HT0 ⊢
  generalize hf : w.heap.size = f at *
  replace hf : w.heap.size ≤ f := by omega
  have hqf : q ≠ f := by omega
  obtain ⟨hq1, k0, k1, k2, k3, k4, k5, k6⟩ := HS1.out.cells
  have hfr := HS1.out.free 2
  clear k0 k1 k3 k4 k5 k6
  have hml : (m : Int) < 100001 := by have := HM.out; omega
  obtain ⟨hfl, t0, t1, t2, t3, t4, t5, f0, f1, f2, f3, f4, f5⟩ := HT0.out.cells
  clear hne2 hi hil KF
  go_wp2
  refine bodyPost_ret (v := _) (by simp [results, Tryd.results33, go_sem, t0, t1, t2, t3, t4, t5]; try rfl) rfl ⟨?_, ?_, ?_⟩
  · refine H.out.of_tq (Tq.six HT1.out hf _ _ _ _ _ _) ((six_other _ _ _ hqf _ _ _ _ _ _).trans ?_) (by have := HM.out; omega)
    rw [HS1.out.blk, HM.out]
  · exact Tq.six HT1.out hf _ _ _ _ _ _
  · rfl
end Lm
end Go.Proofs.YtnodfclgkalbfabDoor

namespace Go.Proofs.YtnodfclgkalbfabDoor
namespace Lm
open Go Go.RowKit
inductive TO where
  | bad (k : Int) : TO
  | ok (kind : Int) (text : ByteArray) (rest : List Gl) : TO
def signS (c : Int) (r : List Gl) : TO :=
  if c = 8788 then .ok 3 (strOfNums [58, 61]) r
  else if c = 8800 then .ok 3 (strOfNums [33, 61]) r
  else if c = 58 ∨ c = 33 then (match r with | [] => .bad 41 | h :: t => if h.code = 61 then .ok 3 (strOfNums [c, 61]) t else .bad 41)
  else .ok 3 (strOfNums [c]) r
def TokR (s : ByteArray) (e : Pl) (g : Gl) (r : List Gl) (o : TO) : Prop :=
  if gcls g.code = 2 then
    o = if 16 < (g :: r).length - ((g :: r).dropWhile (inC [2, 3, 4])).length then .bad 42 else .ok 1 (s.extract g.pl.b (plf ((g :: r).dropWhile (inC [2, 3, 4])) e).b) ((g :: r).dropWhile (inC [2, 3, 4]))
  else if gcls g.code = 3 then
    ∃ n ds, IsLen (dval (bytesOf (s.extract g.pl.b (plf ((g :: r).dropWhile (inC [3])) e).b))) n ∧ IsDec ds (dval (bytesOf (s.extract g.pl.b (plf ((g :: r).dropWhile (inC [3])) e).b))) ∧ o = if 32 < n then .bad 2 else .ok 2 (strOfNums ds) ((g :: r).dropWhile (inC [3]))
  else if gcls g.code = 5 then o = signS (gfold g.code) r
  else o = .bad 41
theorem tokR_name {s : ByteArray} {e : Pl} {g : Gl} {r : List Gl} (h : gcls g.code = 2) : TokR s e g r (if 16 < (g :: r).length - ((g :: r).dropWhile (inC [2, 3, 4])).length then .bad 42 else .ok 1 (s.extract g.pl.b (plf ((g :: r).dropWhile (inC [2, 3, 4])) e).b) ((g :: r).dropWhile (inC [2, 3, 4]))) := by
  unfold TokR
  rw [if_pos h]
theorem tokR_num {s : ByteArray} {e : Pl} {g : Gl} {r : List Gl} {n : Nat} {ds : List Int} (h : gcls g.code = 3) (h1 : IsLen (dval (bytesOf (s.extract g.pl.b (plf ((g :: r).dropWhile (inC [3])) e).b))) n) (h2 : IsDec ds (dval (bytesOf (s.extract g.pl.b (plf ((g :: r).dropWhile (inC [3])) e).b)))) : TokR s e g r (if 32 < n then .bad 2 else .ok 2 (strOfNums ds) ((g :: r).dropWhile (inC [3]))) := by
  unfold TokR
  rw [if_neg (by omega), if_pos h]
  exact ⟨n, ds, h1, h2, rfl⟩
theorem tokR_sign {s : ByteArray} {e : Pl} {g : Gl} {r : List Gl} (h : gcls g.code = 5) : TokR s e g r (signS (gfold g.code) r) := by
  unfold TokR
  rw [if_neg (by omega), if_neg (by omega), if_pos h]
theorem tokR_other {s : ByteArray} {e : Pl} {g : Gl} {r : List Gl} (h2 : gcls g.code ≠ 2) (h3 : gcls g.code ≠ 3) (h5 : gcls g.code ≠ 5) : TokR s e g r (.bad 41) := by
  unfold TokR
  rw [if_neg h2, if_neg h3, if_neg h5]
theorem TokR.one {s : ByteArray} {e : Pl} {g : Gl} {r : List Gl} {o o' : TO} (h : TokR s e g r o) (h' : TokR s e g r o') : o = o' := by
  unfold TokR at h h'
  by_cases c2 : gcls g.code = 2
  · rw [if_pos c2] at h h'
    rw [h, h']
  · rw [if_neg c2] at h h'
    by_cases c3 : gcls g.code = 3
    · rw [if_pos c3] at h h'
      obtain ⟨n, ds, h1, h2, h3⟩ := h
      obtain ⟨n', ds', h1', h2', h3'⟩ := h'
      rw [h3, h3', isLen_one h1 h1', isDec_one h2 h2']
    · rw [if_neg c3] at h h'
      by_cases c5 : gcls g.code = 5
      · rw [if_pos c5] at h h'
        rw [h, h']
      · rw [if_neg c5] at h h'
        rw [h, h']
structure Tk where
  kind : Int
  text : ByteArray
  pl : Pl
inductive SO where
  | bad (k : Int) (p : Pl) : SO
  | ok (l : List Tk) : SO
def SO.pre (t : Tk) : SO → SO
  | .bad k p => .bad k p
  | .ok l => .ok (t :: l)
def SO.pres (ts : List Tk) : SO → SO
  | .bad k p => .bad k p
  | .ok l => .ok (ts ++ l)
inductive ScanR (s : ByteArray) (e : Pl) : List Gl → SO → Prop
  | done (r : List Gl) (h : skp false r = []) (hb : s.size ≤ e.b) : ScanR s e r (.ok [⟨0, ⟨#[]⟩, e⟩])
  | rune (r : List Gl) (h : skp false r = []) (hb : e.b < s.size) : ScanR s e r (.bad 40 e)
  | bad (r : List Gl) (g : Gl) (t : List Gl) (k : Int) (h : skp false r = g :: t) (ht : TokR s e g t (.bad k)) : ScanR s e r (.bad k g.pl)
  | tok (r : List Gl) (g : Gl) (t : List Gl) (kind : Int) (text : ByteArray) (rest : List Gl) (o : SO) (h : skp false r = g :: t) (ht : TokR s e g t (.ok kind text rest)) (hr : ScanR s e rest o) : ScanR s e r (o.pre ⟨kind, text, g.pl⟩)
theorem ScanR.one {s : ByteArray} {e : Pl} {r : List Gl} {o o' : SO} (h : ScanR s e r o) (h' : ScanR s e r o') : o = o' := by
  induction h generalizing o' with
  | done r h hb =>
    cases h' with
    | done _ _ _ => rfl
    | rune _ _ hb' => omega
    | bad _ g t k h2 _ => rw [h] at h2; cases h2
    | tok _ g t _ _ _ _ h2 _ _ => rw [h] at h2; cases h2
  | rune r h hb =>
    cases h' with
    | done _ _ hb' => omega
    | rune _ _ _ => rfl
    | bad _ g t k h2 _ => rw [h] at h2; cases h2
    | tok _ g t _ _ _ _ h2 _ _ => rw [h] at h2; cases h2
  | bad r g t k h ht =>
    cases h' with
    | done _ h2 _ => rw [h] at h2; cases h2
    | rune _ h2 _ => rw [h] at h2; cases h2
    | bad _ g' t' k' h2 ht' =>
      rw [h] at h2
      obtain ⟨rfl, rfl⟩ := List.cons.inj h2
      have := ht.one ht'
      injection this with e1
      rw [e1]
    | tok _ g' t' _ _ _ _ h2 ht' _ =>
      rw [h] at h2
      obtain ⟨rfl, rfl⟩ := List.cons.inj h2
      have := ht.one ht'
      cases this
  | tok r g t kind text rest o h ht hr ih =>
    cases h' with
    | done _ h2 _ => rw [h] at h2; cases h2
    | rune _ h2 _ => rw [h] at h2; cases h2
    | bad _ g' t' k' h2 ht' =>
      rw [h] at h2
      obtain ⟨rfl, rfl⟩ := List.cons.inj h2
      have := ht.one ht'
      cases this
    | tok _ g' t' _ _ _ _ h2 ht' hr' =>
      rw [h] at h2
      obtain ⟨rfl, rfl⟩ := List.cons.inj h2
      have := ht.one ht'
      injection this with e1 e2 e3
      subst e1 e2 e3
      rw [ih hr']
end Lm
end Go.Proofs.YtnodfclgkalbfabDoor

namespace Go.Proofs.YtnodfclgkalbfabDoor
namespace Lm
open Go Go.RowKit
def TokO (w w' : World) (q : Nat) (s : ByteArray) (v : Value) (gs : List Gl) (i : Nat) (e : Pl) (r : Ending) : TO → Prop
  | .bad k => k ≠ 0 ∧ r = .returned (.tuple #[tok0, .int .i64 k]) ∧ Tq w w' q
  | .ok kind text rest => r = .returned (.tuple #[.agg #[.int .i64 kind, .string text, .int .i64 0, .int .i64 0, .int .i64 0, .int .i64 0], .int .i64 0]) ∧ Tq w w' q ∧ ∃ j, i < j ∧ gs.drop j = rest ∧ Scn w' q s v gs j e
structure TokV (w w' : World) (q : Nat) (s : ByteArray) (v : Value) (gs : List Gl) (i : Nat) (e : Pl) (kd : Int) (tx : ByteArray) (k : Int) (o : TO) : Prop where
  out : TokO w w' q s v gs i e (.returned (.tuple #[.agg #[.int .i64 kd, .string tx, .int .i64 0, .int .i64 0, .int .i64 0, .int .i64 0], .int .i64 k])) o
theorem TokO.v {w w' : World} {q : Nat} {s : ByteArray} {v : Value} {gs : List Gl} {i : Nat} {e : Pl} {r : Ending} {o : TO} (h : TokO w w' q s v gs i e r o) : ∃ (kd : Int) (tx : ByteArray) (k : Int), r = .returned (.tuple #[.agg #[.int .i64 kd, .string tx, .int .i64 0, .int .i64 0, .int .i64 0, .int .i64 0], .int .i64 k]) ∧ TokV w w' q s v gs i e kd tx k o := by
  cases o with
  | bad k => exact ⟨_, _, _, h.2.1, ⟨h.1, rfl, h.2.2⟩⟩
  | ok kind text rest => exact ⟨_, _, _, h.1, ⟨rfl, h.2⟩⟩
theorem TokV.six {w w1 w' : World} {q f : Nat} {s : ByteArray} {v : Value} {gs : List Gl} {i : Nat} {e : Pl} {kd : Int} {tx : ByteArray} {k : Int} {o : TO} (h : TokV w1 w' q s v gs i e kd tx k o) (h0 : Scn w q s v gs i e) (hb : Below w.heap.size w w1) (hf : w.heap.size ≤ f) (hqf : q ≠ f) (u0 u1 u2 u3 u4 u5 : Value) :
    TokO w ((((((w'.setCell ⟨f, 0, none⟩ u0).setCell ⟨f, 1, none⟩ u1).setCell ⟨f, 2, none⟩ u2).setCell ⟨f, 3, none⟩ u3).setCell ⟨f, 4, none⟩ u4).setCell ⟨f, 5, none⟩ u5) q s v gs i e (.returned (.tuple #[.agg #[.int .i64 kd, .string tx, .int .i64 0, .int .i64 0, .int .i64 0, .int .i64 0], .int .i64 k])) o := by
  obtain ⟨h⟩ := h
  cases o with
  | bad c => exact ⟨h.1, h.2.1, ((Tq.of_below hb).trans h.2.2).six hf _ _ _ _ _ _⟩
  | ok kind text rest =>
    obtain ⟨h1, h2, j, h3, h4, h5⟩ := h
    exact ⟨h1, ((Tq.of_below hb).trans h2).six hf _ _ _ _ _ _, j, h3, h4, h0.of_tq (((Tq.of_below hb).trans h2).six hf _ _ _ _ _ _) ((six_other _ _ _ hqf _ _ _ _ _ _).trans h5.blk) h5.le⟩
theorem dropWhile_len {α : Type} (p : α → Bool) (l : List α) : (l.dropWhile p).length ≤ l.length := by
  induction l with
  | nil => simp
  | cons a l ih =>
    by_cases h : p a = true
    · rw [List.dropWhile_cons_of_pos h]; simp; omega
    · rw [List.dropWhile_cons_of_neg h]; simp
theorem dropWhile_lt {α : Type} {p : α → Bool} {a : α} {l : List α} (h : p a = true) : ((a :: l).dropWhile p).length < (a :: l).length := by
  rw [List.dropWhile_cons_of_pos h]
  have := dropWhile_len p l
  simp
  omega
theorem drop_lt {gs : List Gl} {i j : Nat} (hi : i < gs.length) (h : (gs.drop j).length < (gs.drop i).length) : i < j := by
  simp at h
  omega
theorem name_t (w : World) (q : Nat) (s : ByteArray) (v : Value) (gs : List Gl) (i : Nat) (e : Pl) (h : Scn w q s v gs i e) (hn : gs.length ≤ 100000) (hQ : Snd s pl0 gs e) (hs : s.size ≤ 4096) (g : Gl) (hd : gs.drop i = g :: gs.drop (i + 1)) (hc : gcls g.code = 2) :
    Calls Tryd.prog 31 #[.pointer (some ⟨q, 0, none⟩)] w fun r w' => ∃ o, TokR s e g (gs.drop (i + 1)) o ∧ TokO w w' q s v gs i e r o := by
  refine (name_any w q s v gs i e h hn hQ (by omega)).mono ?_
  rintro r w' ⟨j, hij, hdj, hS, hT, hr⟩
  have hlt : i < gs.length := by
    apply Classical.byContradiction
    intro hh
    rw [List.drop_eq_nil_of_le (by omega)] at hd
    cases hd
  have hjl := hS.le
  have hl : (g :: gs.drop (i + 1)).length - ((g :: gs.drop (i + 1)).dropWhile (inC [2, 3, 4])).length = j - i := by
    rw [← hd, ← hdj]
    simp
    omega
  have hj : i < j := by
    refine drop_lt hlt ?_
    rw [hdj, hd]
    exact dropWhile_lt (by simp [inC, hc])
  refine ⟨_, tokR_name hc, ?_⟩
  rw [hl]
  rw [hd] at hdj
  rcases hr with ⟨h1, rfl⟩ | ⟨h1, rfl⟩
  · rw [if_pos h1]; exact ⟨by omega, rfl, hT⟩
  · rw [if_neg (by omega), hd, hdj]
    exact ⟨rfl, hT, j, hj, hdj, hS⟩
theorem number_t (w : World) (q : Nat) (s : ByteArray) (v : Value) (gs : List Gl) (i : Nat) (e : Pl) (h : Scn w q s v gs i e) (hn : gs.length ≤ 100000) (hQ : Snd s pl0 gs e) (hs : s.size ≤ 4096) (g : Gl) (hd : gs.drop i = g :: gs.drop (i + 1)) (hc : gcls g.code = 3) :
    Calls Tryd.prog 32 #[.pointer (some ⟨q, 0, none⟩)] w fun r w' => ∃ o, TokR s e g (gs.drop (i + 1)) o ∧ TokO w w' q s v gs i e r o := by
  have hlt : i < gs.length := by
    apply Classical.byContradiction
    intro hh
    rw [List.drop_eq_nil_of_le (by omega)] at hd
    cases hd
  have hin : inC [3] g = true := by simp [inC, hc]
  refine (number_any w q s v gs i e h hn hQ hs ?_).mono ?_
  · have hD := hQ.drop pl0_ok (Nat.zero_le _) i h.le
    rw [hd, List.dropWhile_cons_of_pos hin]
    obtain ⟨m, hm, hml⟩ : ∃ m, (gs.drop (i + 1)).dropWhile (inC [3]) = (gs.drop i).drop m ∧ 1 ≤ m ∧ m ≤ (gs.drop i).length := by
      refine ⟨(gs.drop i).length - ((gs.drop (i + 1)).dropWhile (inC [3])).length, ?_, ?_, ?_⟩
      · have key : ∀ (l : List Gl), l.dropWhile (inC [3]) = l.drop (l.length - (l.dropWhile (inC [3])).length) := by
          intro l
          induction l with
          | nil => rfl
          | cons a l ih =>
            by_cases ha : inC [3] a = true
            · rw [List.dropWhile_cons_of_pos ha]
              have := dropWhile_len (inC [3]) l
              rw [show (a :: l).length - (l.dropWhile (inC [3])).length = (l.length - (l.dropWhile (inC [3])).length) + 1 from by simp; omega, List.drop_succ_cons]
              exact ih
            · rw [List.dropWhile_cons_of_neg ha]; simp
        have := key (gs.drop i)
        rw [hd, List.dropWhile_cons_of_pos hin] at this
        rw [hd]
        exact this
      · have := dropWhile_len (inC [3]) (gs.drop (i + 1)); simp at this ⊢; omega
      · omega
    have h2 := hD.1.drop hD.2.1 hD.2.2.2.1 m hml.2
    rw [hm]
    rw [hd] at h2 ⊢
    have h3 := h2.2.2.1
    omega
  rintro r w' ⟨j, hij, hdj, hS, hT, n, ds, hn1, hds, hr⟩
  have hj : i < j := by
    refine drop_lt hlt ?_
    rw [hdj, hd]
    exact dropWhile_lt hin
  rw [hd] at hdj hn1 hds
  rw [hdj] at hn1 hds
  refine ⟨_, tokR_num hc hn1 hds, ?_⟩
  rcases hr with ⟨h1, rfl⟩ | ⟨h1, rfl⟩
  · rw [if_pos h1]; exact ⟨by omega, rfl, hT⟩
  · rw [if_neg (by omega)]
    exact ⟨rfl, hT, j, hj, hdj, hS⟩
theorem fold_of {g : Gl} (h : gcls g.code = 5) : gsign (gfold g.code) := by
  apply Classical.byContradiction
  intro hn
  unfold gcls at h
  repeat' split at h
  all_goals first | contradiction | omega
theorem sign_t (w : World) (q : Nat) (s : ByteArray) (v : Value) (gs : List Gl) (i : Nat) (e : Pl) (h : Scn w q s v gs i e) (hn : gs.length ≤ 100000) (g : Gl) (hg : gs[i]? = some g) (hc : gcls g.code = 5) :
    Calls Tryd.prog 33 #[.pointer (some ⟨q, 0, none⟩)] w fun r w' => ∃ o, TokR s e g (gs.drop (i + 1)) o ∧ TokO w w' q s v gs i e r o := by
  have hs := fold_of hc
  suffices H : Calls Tryd.prog 33 #[.pointer (some ⟨q, 0, none⟩)] w fun r w' => TokO w w' q s v gs i e r (signS (gfold g.code) (gs.drop (i + 1))) from H.mono (fun r w' h => ⟨_, tokR_sign hc, h⟩)
  generalize hcc : gfold g.code = c at hs ⊢
  unfold signS
  by_cases c1 : c = 8788
  · rw [if_pos c1]
    refine (sign_becomes w q s v gs i e h hn g hg c hcc c1).mono ?_
    rintro r w' ⟨hS, hT, rfl⟩
    exact ⟨rfl, hT, i + 1, by omega, rfl, hS⟩
  · rw [if_neg c1]
    by_cases c2 : c = 8800
    · rw [if_pos c2]
      refine (sign_unlike w q s v gs i e h hn g hg c hcc c2).mono ?_
      rintro r w' ⟨hS, hT, rfl⟩
      exact ⟨rfl, hT, i + 1, by omega, rfl, hS⟩
    · rw [if_neg c2]
      by_cases c3 : c = 58 ∨ c = 33
      · rw [if_pos c3]
        by_cases hl : i + 1 < gs.length
        · rw [List.drop_eq_getElem_cons hl]
          simp only
          have hg2 : gs[i + 1]? = some (gs[i + 1]'hl) := List.getElem?_eq_getElem hl
          by_cases h61 : (gs[i + 1]'hl).code = 61
          · rw [if_pos h61]
            rcases c3 with c3 | c3
            · rw [c3] at hcc ⊢
              refine (sign_colon w q s v gs i e h hn g hg 58 hcc rfl _ hg2 h61).mono ?_
              rintro r w' ⟨hS, hT, rfl⟩
              exact ⟨rfl, hT, i + 2, by omega, rfl, hS⟩
            · rw [c3] at hcc ⊢
              refine (sign_bang w q s v gs i e h hn g hg 33 hcc rfl _ hg2 h61).mono ?_
              rintro r w' ⟨hS, hT, rfl⟩
              exact ⟨rfl, hT, i + 2, by omega, rfl, hS⟩
          · rw [if_neg h61]
            rcases c3 with c3 | c3
            · refine (sign_colon_other w q s v gs i e h hn g hg c hcc c3 _ hg2 h61).mono ?_
              rintro r w' ⟨hS, hT, rfl⟩
              exact ⟨by omega, rfl, hT⟩
            · refine (sign_bang_other w q s v gs i e h hn g hg c hcc c3 _ hg2 h61).mono ?_
              rintro r w' ⟨hS, hT, rfl⟩
              exact ⟨by omega, rfl, hT⟩
        · rw [List.drop_eq_nil_of_le (by omega)]
          simp only
          rcases c3 with c3 | c3
          · refine (sign_colon_none w q s v gs i e h hn g hg c hcc c3 (by omega)).mono ?_
            rintro r w' ⟨hS, hT, rfl⟩
            exact ⟨by omega, rfl, hT⟩
          · refine (sign_bang_none w q s v gs i e h hn g hg c hcc c3 (by omega)).mono ?_
            rintro r w' ⟨hS, hT, rfl⟩
            exact ⟨by omega, rfl, hT⟩
      · rw [if_neg c3]
        refine (sign_one w q s v gs i e h hn g hg c hcc ?_ (by omega) (by omega)).mono ?_
        · unfold gsign at hs; omega
        rintro r w' ⟨hS, hT, rfl⟩
        exact ⟨rfl, hT, i + 1, by omega, rfl, hS⟩
end Lm
end Go.Proofs.YtnodfclgkalbfabDoor

namespace Go.Proofs.YtnodfclgkalbfabDoor
namespace Lm
open Go Go.RowKit
theorem TokV.tq {w w' : World} {q : Nat} {s : ByteArray} {v : Value} {gs : List Gl} {i : Nat} {e : Pl} {kd : Int} {tx : ByteArray} {k : Int} {o : TO} (h : TokV w w' q s v gs i e kd tx k o) : Tq w w' q := by
  obtain ⟨h⟩ := h
  cases o with
  | bad c => exact h.2.2
  | ok kind text rest => exact h.2.1
set_option maxRecDepth 20000 in
set_option maxHeartbeats 1000000 in
theorem token_any (w : World) (q : Nat) (s : ByteArray) (v : Value) (gs : List Gl) (i : Nat) (e : Pl) (h : Scn w q s v gs i e) (hn : gs.length ≤ 100000) (hQ : Snd s pl0 gs e) (hs : s.size ≤ 4096) (g : Gl) (hg : gs[i]? = some g) :
    Calls Tryd.prog 19 #[.pointer (some ⟨q, 0, none⟩)] w fun r w' => ∃ o, TokR s e g (gs.drop (i + 1)) o ∧ TokO w w' q s v gs i e r o := by
  have H := hide h
  have hi : i < gs.length := (List.getElem?_eq_some_iff.1 hg).1
  have hd : gs.drop i = g :: gs.drop (i + 1) := by
    rw [List.drop_eq_getElem_cons hi]
    congr 1
    rw [List.getElem?_eq_getElem hi] at hg
    exact Option.some.inj hg
  have HD := hide hd
  obtain ⟨ao, cap, rfl⟩ := h.gls.isSlice
  obtain ⟨b, off, rfl, hG⟩ := h.gls.glyph hg
  obtain ⟨hq, k0, k1, k2, k3, k4, k5, k6⟩ := h.cells
  obtain ⟨hb, g0, g1, g2, g3, g4, g5⟩ := hG
  have hi' : (i : Int) < (gs.length : Int) := by omega
  have HGI := hide hg
  clear h k0 k3 k4 k5 k6 g0 g2 g3 g4 g5 hd hg
  go_enter Tryd.func19, Tryd.ntmps19
  go_wp2_with fail
  go_quiet (fail)
  have hbq : Below w.heap.size w ((w.alloc (.cells #[.int .i64 0, .string ⟨#[]⟩, .int .i64 0, .int .i64 0, .int .i64 0, .int .i64 0] 32)).drewN nq) := by (repeat' (first | (with_reducible exact Below.refl _ _) | (with_reducible assumption) | (with_reducible refine gdrewN ?_ _) | (with_reducible refine Below.alloc ?_ ?_ _) | (with_reducible refine Below.drew ?_) | (with_reducible refine Below.setCell ?_ ?_ _) | go_size))
  have HB := hide hbq
  have HS1 := hide (H.out.below hbq)
  have HT1 : Hid (Tk0B ((w.alloc (.cells #[.int .i64 0, .string ⟨#[]⟩, .int .i64 0, .int .i64 0, .int .i64 0, .int .i64 0] 32)).drewN nq) w.heap.size) := heap_alloc_new w _
  clear hbq k1 k2 g1 hb hi'
  generalize (w.alloc (.cells #[.int .i64 0, .string ⟨#[]⟩, .int .i64 0, .int .i64 0, .int .i64 0, .int .i64 0] 32)).drewN nq = w1 at HB HS1 HT1 ⊢
  generalize hf : w.heap.size = f at *
  have hqf : q ≠ f := by omega
  have hfq : f ≠ q := by omega
  replace HB : Hid (Below w.heap.size w w1) := by rw [hf]; exact HB
  replace hf : w.heap.size ≤ f := by omega
  clear hq
  by_cases hc2 : gcls g.code = 2
  · have n2 : (gcls g.code == 2) = true := by rw [hc2]; rfl
    go_wp2_with fail
    refine (name_t _ q s _ gs i e HS1.out hn hQ hs g HD.out hc2).mono ?_
    rintro r w2 ⟨o, ho, hO⟩
    obtain ⟨kd, tx, k, rfl, hV⟩ := hO.v
    have HV := hide hV
    have HR := hide ho
    have HT0 := hide (HT1.out.tq (hV.tq) hfq)
    clear hO hV ho
    obtain ⟨hfl, t0, t1, t2, t3, t4, t5, f0, f1, f2, f3, f4, f5⟩ := HT0.out.cells
    go_wp2
    refine bodyPost_ret (v := _) (by simp [results, Tryd.results19, go_sem, t0, t1, t2, t3, t4, t5]; try rfl) rfl ⟨o, HR.out, ?_⟩
    exact HV.out.six H.out HB.out hf hqf _ _ _ _ _ _
  by_cases hc3 : gcls g.code = 3
  · have n2 : (gcls g.code == 2) = false := beq_eq_false_iff_ne.2 hc2
    have n3 : (gcls g.code == 3) = true := by rw [hc3]; rfl
    go_wp2_with fail
    refine (number_t _ q s _ gs i e HS1.out hn hQ hs g HD.out hc3).mono ?_
    rintro r w2 ⟨o, ho, hO⟩
    obtain ⟨kd, tx, k, rfl, hV⟩ := hO.v
    have HV := hide hV
    have HR := hide ho
    have HT0 := hide (HT1.out.tq (hV.tq) hfq)
    clear hO hV ho
    obtain ⟨hfl, t0, t1, t2, t3, t4, t5, f0, f1, f2, f3, f4, f5⟩ := HT0.out.cells
    go_wp2
    refine bodyPost_ret (v := _) (by simp [results, Tryd.results19, go_sem, t0, t1, t2, t3, t4, t5]; try rfl) rfl ⟨o, HR.out, ?_⟩
    exact HV.out.six H.out HB.out hf hqf _ _ _ _ _ _
  by_cases hc5 : gcls g.code = 5
  · have n2 : (gcls g.code == 2) = false := beq_eq_false_iff_ne.2 hc2
    have n3 : (gcls g.code == 3) = false := beq_eq_false_iff_ne.2 hc3
    have n5 : (gcls g.code == 5) = true := by rw [hc5]; rfl
    go_wp2_with fail
    refine (sign_t _ q s _ gs i e HS1.out hn g HGI.out hc5).mono ?_
    rintro r w2 ⟨o, ho, hO⟩
    obtain ⟨kd, tx, k, rfl, hV⟩ := hO.v
    have HV := hide hV
    have HR := hide ho
    have HT0 := hide (HT1.out.tq (hV.tq) hfq)
    clear hO hV ho
    obtain ⟨hfl, t0, t1, t2, t3, t4, t5, f0, f1, f2, f3, f4, f5⟩ := HT0.out.cells
    go_wp2
    refine bodyPost_ret (v := _) (by simp [results, Tryd.results19, go_sem, t0, t1, t2, t3, t4, t5]; try rfl) rfl ⟨o, HR.out, ?_⟩
    exact HV.out.six H.out HB.out hf hqf _ _ _ _ _ _
  · have n2 : (gcls g.code == 2) = false := beq_eq_false_iff_ne.2 hc2
    have n3 : (gcls g.code == 3) = false := beq_eq_false_iff_ne.2 hc3
    have n5 : (gcls g.code == 5) = false := beq_eq_false_iff_ne.2 hc5
    obtain ⟨hfl, t0, t1, t2, t3, t4, t5, f0, f1, f2, f3, f4, f5⟩ := HT1.out.cells
    go_wp2
    refine bodyPost_ret (v := _) (by simp [results, Tryd.results19, go_sem, t0, t1, t2, t3, t4, t5]; try rfl) rfl ⟨_, tokR_other hc2 hc3 hc5, by omega, rfl, (Tq.of_below HB.out).six hf _ _ _ _ _ _⟩
end Lm
end Go.Proofs.YtnodfclgkalbfabDoor

namespace Go.Proofs.YtnodfclgkalbfabDoor
namespace Lm
open Go Go.RowKit
def tflat : List Tk → List Value
  | [] => []
  | t :: ts => .int .i64 t.kind :: .string t.text :: .int .i64 t.pl.b :: .int .i64 t.pl.g :: .int .i64 t.pl.l :: .int .i64 t.pl.c :: tflat ts
theorem tflat_append (es fs : List Tk) : tflat (es ++ fs) = tflat es ++ tflat fs := by
  induction es with
  | nil => rfl
  | cons e es ih => simp [tflat, ih]
def plz : Pl := ⟨0, 0, 0, 0⟩
theorem infoT : (Tryd.prog.info? 32).map (fun i => (i.zero, i.size, i.bytes)) = some (some (.agg #[.int .i64 0, .string ⟨#[]⟩, .int .i64 0, .int .i64 0, .int .i64 0, .int .i64 0]), 6, 56) := by kernel_rfl
structure ScS (w wr : World) (q f B : Nat) (s : ByteArray) (v : Value) (gs : List Gl) (i : Nat) (e : Pl) (ts : List Tk) (tv : Value) : Prop where
  scn : Scn wr q s v gs i e
  own : wr.ownsRow B 32 6 tv ts.length (tflat ts)
  zer : PlB wr f plz
  bel : Below w.heap.size w wr
  siz : B ≤ wr.heap.size
  fw : w.heap.size ≤ f
  qw : w.heap.size ≤ q
  fq : f ≠ q
  fB : f < B
  qB : q < B
  vB : ∀ b off n c, v = .slice (some ⟨b, off, none⟩) n c → b < B
theorem ScS.below {w wr w' : World} {q f B : Nat} {s : ByteArray} {v : Value} {gs : List Gl} {i : Nat} {e : Pl} {ts : List Tk} {tv : Value} (h : ScS w wr q f B s v gs i e ts tv) (hb : Below wr.heap.size wr w') : ScS w w' q f B s v gs i e ts tv :=
  ⟨h.scn.below hb, own_below h.own hb, h.zer.below hb, h.bel.trans (hb.mono h.bel.size), Nat.le_trans h.siz hb.size, h.fw, h.qw, h.fq, h.fB, h.qB, h.vB⟩
theorem ScS.tq {w wr w' : World} {q f B : Nat} {s : ByteArray} {v : Value} {gs : List Gl} {i j : Nat} {e : Pl} {ts : List Tk} {tv : Value} (h : ScS w wr q f B s v gs i e ts tv) (ht : Tq wr w' q) (hs : Scn w' q s v gs j e) : ScS w w' q f B s v gs j e ts tv :=
  ⟨hs, own_keep h.own fun k _ hk he => (ht.other k (lt_of_heap he) (by have := h.qB; omega)).trans he, h.zer.tq ht h.fq, below_tq h.bel ht h.qw (Nat.le_refl _), Nat.le_trans h.siz ht.size, h.fw, h.qw, h.fq, h.fB, h.qB, h.vB⟩
theorem ScS.more {w wr w1 : World} {q f B : Nat} {s : ByteArray} {v : Value} {gs : List Gl} {i : Nat} {e : Pl} {ts : List Tk} {tv tv' : Value} {t : Tk} (h : ScS w wr q f B s v gs i e ts tv) (hg : wr.grownBy w1 tv.ownBlock) (hown : w1.ownsRow B 32 6 tv' (ts ++ [t]).length (tflat (ts ++ [t]))) : ScS w w1 q f B s v gs i e (ts ++ [t]) tv' := by
  have hrow : ∀ k, k < B → some k ≠ tv.ownBlock := by
    intro k hk
    obtain ⟨hl, ⟨rfl, _⟩ | ⟨b, cap, cur, rfl, hb, _⟩⟩ := h.own
    · simp [Value.ownBlock]
    · simp only [Value.ownBlock, ne_eq, Option.some.injEq]
      omega
  have hz := h.siz
  have hB : ∀ k, k < B → w1.heap[k]? = wr.heap[k]? := fun k hk => hg.block k (by omega) (hrow k hk)
  have hGs : Gs w1 v gs := by
    obtain ⟨ao, cap, rfl, h1, h2, h3, h4⟩ := h.scn.gls
    refine ⟨ao, cap, rfl, h1, h2, h3, ?_⟩
    rcases h4 with h4 | ⟨b, off, rfl, hl, hc⟩
    · exact .inl h4
    · refine .inr ⟨b, off, rfl, Nat.lt_of_lt_of_le hl hg.size, fun j u hu => ?_⟩
      rw [World.cell?_of_block (w := wr) (hB b (h.vB _ _ _ _ rfl))]
      exact hc j u hu
  exact ⟨⟨(hB q h.qB).trans h.scn.blk, hGs, h.scn.le, h.scn.apt⟩, hown, (hB f h.fB).trans h.zer, ⟨hg.os.trans h.bel.os, hg.tape.trans h.bel.tape, hg.output.trans h.bel.output, Nat.le_trans h.bel.size hg.size, fun k hk => (hB k (by have := h.fw; have := h.fB; omega)).trans (h.bel.block k hk)⟩, Nat.le_trans h.siz hg.size, h.fw, h.qw, h.fq, h.fB, h.qB, h.vB⟩
def ScanO (w w' : World) (r : Ending) : SO → Prop
  | .bad k p => r = .returned (.tuple #[.slice none 0 0, .int .i64 k, p.v])
  | .ok l => ∃ v, r = .returned (.tuple #[v, .int .i64 0, plz.v]) ∧ w'.ownsRow w.heap.size 32 6 v l.length (tflat l)
theorem pres_nil (o : SO) : o.pres [] = o := by cases o <;> rfl
theorem pres_pre (ts : List Tk) (t : Tk) (o : SO) : (o.pre t).pres ts = o.pres (ts ++ [t]) := by
  cases o with
  | bad k p => rfl
  | ok l => simp [SO.pre, SO.pres]
end Lm
end Go.Proofs.YtnodfclgkalbfabDoor

namespace Go.Proofs.YtnodfclgkalbfabDoor
namespace Lm
open Go Go.RowKit
set_option maxRecDepth 20000 in
set_option maxHeartbeats 1000000 in
theorem scan_long (w : World) (s : ByteArray) (hs : 4096 < s.size) :
    Calls Tryd.prog 8 #[.string s] w fun r w' => Below w.heap.size w w' ∧ r = .returned (.tuple #[.slice none 0 0, .int .i64 2, plz.v]) := by
  have hs' : (4096 : Int) < (s.size : Int) := by omega
  go_enter Tryd.func8, Tryd.ntmps8
  go_wp2
  refine bodyPost_ret (v := _) (by simp [results, Tryd.results8, go_sem]; try rfl) rfl ⟨?_, rfl⟩
  (repeat' (first | (with_reducible exact Below.refl _ _) | (with_reducible assumption) | (with_reducible refine gdrewN ?_ _) | (with_reducible refine Below.alloc ?_ ?_ _) | (with_reducible refine Below.drew ?_) | (with_reducible refine Below.setCell ?_ ?_ _) | go_size))
theorem plB_fill {w : World} {f : Nat} {p p' : Pl} (h : PlB w f p) : PlB ((((w.setCell ⟨f, 0, none⟩ (.int .i64 p'.b)).setCell ⟨f, 1, none⟩ (.int .i64 p'.g)).setCell ⟨f, 2, none⟩ (.int .i64 p'.l)).setCell ⟨f, 3, none⟩ (.int .i64 p'.c)) f p' := by
  unfold PlB
  rw [heap_setCell_same _ _ 3 _ _ _ (heap_setCell_same _ _ 2 _ _ _ (heap_setCell_same _ _ 1 _ _ _ (heap_setCell_same _ _ 0 _ _ _ h)))]
  simp
theorem fill_below {B f : Nat} {w w' : World} (h : Below B w w') (hf : B ≤ f) (u0 u1 u2 u3 : Value) : Below B w ((((w'.setCell ⟨f, 0, none⟩ u0).setCell ⟨f, 1, none⟩ u1).setCell ⟨f, 2, none⟩ u2).setCell ⟨f, 3, none⟩ u3) :=
  (((h.setCell hf _).setCell hf _).setCell hf _).setCell hf _
theorem scs_first {w w1 : World} {s : ByteArray} {ao : Option Addr} {cap : Nat} {gs : List Gl} {e : Pl} (HOWN : w1.ownsRow (w.heap.size + 2 + 2) 70 6 (.slice ao gs.length cap) gs.length (gflat gs)) (HQB : w1.heap[w.heap.size + 1]? = some (.cells #[.string s, .slice none 0 0, .int .i64 0, .int .i64 0, .int .i64 0, .int .i64 0, .int .i64 0] 48 (0, 0))) (HFB : PlB w1 w.heap.size plz) (HB1 : Below w.heap.size w w1) (hs1 : w.heap.size + 2 ≤ w1.heap.size) :
    ScS w (((((w1.setCell ⟨w.heap.size + 1, 1, none⟩ (.slice ao gs.length cap)).setCell ⟨w.heap.size + 1, 3, none⟩ (.int .i64 e.b)).setCell ⟨w.heap.size + 1, 4, none⟩ (.int .i64 e.g)).setCell ⟨w.heap.size + 1, 5, none⟩ (.int .i64 e.l)).setCell ⟨w.heap.size + 1, 6, none⟩ (.int .i64 e.c)) (w.heap.size + 1) w.heap.size w1.heap.size s (.slice ao gs.length cap) gs 0 e [] (.slice none 0 0) := by
  have ht : Tq w1 (((((w1.setCell ⟨w.heap.size + 1, 1, none⟩ (.slice ao gs.length cap)).setCell ⟨w.heap.size + 1, 3, none⟩ (.int .i64 e.b)).setCell ⟨w.heap.size + 1, 4, none⟩ (.int .i64 e.g)).setCell ⟨w.heap.size + 1, 5, none⟩ (.int .i64 e.l)).setCell ⟨w.heap.size + 1, 6, none⟩ (.int .i64 e.c)) (w.heap.size + 1) := (Tq.refl _ _).set 1 _ |>.set 3 _ |>.set 4 _ |>.set 5 _ |>.set 6 _
  have hap : ∀ b off n c, Value.slice ao gs.length cap = .slice (some ⟨b, off, none⟩) n c → b ≠ w.heap.size + 1 ∧ b < w1.heap.size := by
    intro b off n c hv
    obtain ⟨hl, ⟨h1, _⟩ | ⟨g, cap', cur, h1, hb, hh, _⟩⟩ := HOWN
    · rw [h1] at hv; cases hv
    · rw [h1] at hv
      simp only [Value.slice.injEq, Option.some.injEq, Addr.mk.injEq] at hv
      have := lt_of_heap hh
      omega
  refine ⟨⟨?_, Gs.tq (Ce.own HOWN) ht (fun b off n c hv => (hap b off n c hv).1), Nat.zero_le _, fun b off n c hv => (hap b off n c hv).1⟩, World.ownsRow_nil _ _ _ _, HFB.tq ht (by omega), below_tq HB1 ht (by omega) (Nat.le_refl _), ht.size, Nat.le_refl _, by omega, by omega, by omega, by omega, fun b off n c hv => (hap b off n c hv).2⟩
  rw [heap_setCell_same _ _ 6 _ _ _ (heap_setCell_same _ _ 5 _ _ _ (heap_setCell_same _ _ 4 _ _ _ (heap_setCell_same _ _ 3 _ _ _ (heap_setCell_same _ _ 1 _ _ _ HQB))))]
  simp
set_option maxRecDepth 20000 in
set_option maxHeartbeats 4000000 in
theorem scan_short (w : World) (s : ByteArray) (hT : Tabs w) (hs : s.size ≤ 4096) :
    Calls Tryd.prog 8 #[.string s] w fun r w' => Below w.heap.size w w' ∧ ∃ gs e o, Snd s pl0 gs e ∧ ScanR s e gs o ∧ ScanO w w' r o := by
  have hs' : decide ((4096 : Int) < (s.size : Int)) = false := by simp; omega
  go_enter Tryd.func8, Tryd.ntmps8
  go_wp2_with fail
  refine (sound_any _ _ (hT.below (by (repeat' (first | (with_reducible exact Below.refl _ _) | (with_reducible assumption) | (with_reducible refine gdrewN ?_ _) | (with_reducible refine Below.alloc ?_ ?_ _) | (with_reducible refine Below.drew ?_) | (with_reducible refine Below.setCell ?_ ?_ _) | go_size)))) hs).mono ?_
  rintro r w1 ⟨gs, e, v, hQ, rfl, hown, hb1⟩
  obtain ⟨ao, cap, rfl⟩ := own_slice hown
  have hsz0 : ((w.alloc (.cells #[.int .i64 0, .int .i64 0, .int .i64 0, .int .i64 0] 26)).alloc (.cells #[.string s, .slice none 0 0, .int .i64 0, .int .i64 0, .int .i64 0, .int .i64 0, .int .i64 0] 48)).heap.size = w.heap.size + 2 := by simp [World.size_alloc]
  have hbq := hb1
  rw [hsz0] at hown hbq
  have hqb : w1.heap[w.heap.size + 1]? = some (.cells #[.string s, .slice none 0 0, .int .i64 0, .int .i64 0, .int .i64 0, .int .i64 0, .int .i64 0] 48 (0, 0)) := by
    rw [hbq.block (w.heap.size + 1) (by omega)]
    have := heap_alloc_new (w.alloc (.cells #[.int .i64 0, .int .i64 0, .int .i64 0, .int .i64 0] 26)) (.cells #[.string s, .slice none 0 0, .int .i64 0, .int .i64 0, .int .i64 0, .int .i64 0, .int .i64 0] 48)
    rwa [World.size_alloc] at this
  have hfb : PlB w1 w.heap.size plz := by
    unfold PlB
    rw [hbq.block w.heap.size (by omega)]
    exact (((Below.refl _ _).alloc (Nat.le_refl _) (.cells #[.string s, .slice none 0 0, .int .i64 0, .int .i64 0, .int .i64 0, .int .i64 0, .int .i64 0] 48)).block w.heap.size (by simp [World.size_alloc])).trans (heap_alloc_new w (.cells #[.int .i64 0, .int .i64 0, .int .i64 0, .int .i64 0] 26))
  have hb1w : Below w.heap.size w w1 := (below_two w _ _).trans (hbq.mono (by omega))
  have hs1 : w.heap.size + 2 ≤ w1.heap.size := by have := hbq.size; rwa [hsz0] at this
  have HOWN := hide hown
  have HQB := hide hqb
  have HFB := hide hfb
  have HB1 := hide hb1w
  have HQ := hide hQ
  have k1 : w1.cell? ⟨w.heap.size + 1, 1, none⟩ = some (.slice none 0 0) := by rw [cell_of_row w1 _ 1 _ _ _ hqb]; rfl
  have k3 : w1.cell? ⟨w.heap.size + 1, 3, none⟩ = some (.int .i64 0) := by rw [cell_of_row w1 _ 3 _ _ _ hqb]; rfl
  have k4 : w1.cell? ⟨w.heap.size + 1, 4, none⟩ = some (.int .i64 0) := by rw [cell_of_row w1 _ 4 _ _ _ hqb]; rfl
  have k5 : w1.cell? ⟨w.heap.size + 1, 5, none⟩ = some (.int .i64 0) := by rw [cell_of_row w1 _ 5 _ _ _ hqb]; rfl
  have k6 : w1.cell? ⟨w.heap.size + 1, 6, none⟩ = some (.int .i64 0) := by rw [cell_of_row w1 _ 6 _ _ _ hqb]; rfl
  have f1 := frozen_of_row w1 (w.heap.size + 1) 1 _ _ hqb
  have f3 := frozen_of_row w1 (w.heap.size + 1) 3 _ _ hqb
  have f4 := frozen_of_row w1 (w.heap.size + 1) 4 _ _ hqb
  have f5 := frozen_of_row w1 (w.heap.size + 1) 5 _ _ hqb
  have f6 := frozen_of_row w1 (w.heap.size + 1) 6 _ _ hqb
  clear hown hbq hqb hfb hb1 hb1w hsz0 hQ hT
  unfold Pl.v
  go_wp2_with fail
  have hS0 := scs_first (e := e) HOWN.out HQB.out HFB.out HB1.out hs1
  clear k1 k3 k4 k5 k6 f1 f3 f4 f5 f6 HOWN HQB HFB HB1
  generalize (((((w1.setCell ⟨w.heap.size + 1, 1, none⟩ (.slice ao gs.length cap)).setCell ⟨w.heap.size + 1, 3, none⟩ (.int .i64 e.b)).setCell ⟨w.heap.size + 1, 4, none⟩ (.int .i64 e.g)).setCell ⟨w.heap.size + 1, 5, none⟩ (.int .i64 e.l)).setCell ⟨w.heap.size + 1, 6, none⟩ (.int .i64 e.c)) = w2 at hS0 ⊢
  generalize w1.heap.size = B at hS0 hs1
  have hends := HQ.out.ends pl0_ok (Nat.zero_le _)
  have hgl : gs.length ≤ 4096 := by simp only [pl0] at hends; omega
  have heb : e.b ≤ s.size := hends.2.2.1
  clear hends
  refine (skip_any w2 _ s _ gs 0 e hS0.scn (by omega)).mono ?_
  rintro r w3 ⟨rfl, ht3, j0, _, hdj0, hS3⟩
  have HS := hide (hS0.tq ht3 hS3)
  rw [List.drop_zero] at hdj0
  have HD0 := hide hdj0
  clear hS0 ht3 hS3 hdj0
  generalize hq : w.heap.size + 1 = q at *
  generalize hf : w.heap.size = f at *
  replace hf : w.heap.size ≤ f := by omega
  go_wp2
  have hqf : q ≠ f := by omega
  have hfq : f ≠ q := by omega
  clear hq
  obtain ⟨i0, hi0, hz0, hz1, hz2⟩ := info_is infoT
  go_loopw [6] (fun tv wr => ∃ (ts : List Tk) (i : Nat) (ta : Option Addr) (tc : Nat) (rest : List Gl), tv = .slice ta ts.length tc ∧ ScS w wr q f B s (.slice ao gs.length cap) gs i e ts (.slice ta ts.length tc) ∧ ts.length ≤ i ∧ gs.drop i = skp false rest ∧ ∀ o, ScanR s e rest o → ScanR s e gs (o.pres ts)) (fun _ wr => gs.length - nxtS wr q)
  case atStart => exact ⟨[], j0, none, 0, gs, rfl, HS.out, Nat.zero_le _, HD0.out, fun o h => by rw [pres_nil]; exact h⟩
  case round =>
    clear HS HD0
    obtain ⟨ts, i, ta, tc, rest, rfl, hS, hti, hdi, hpre⟩ := hrel
    have HS := hide hS
    have HE := hide hpre
    have HDI := hide hdi
    have IP := hide hS.scn.nxt
    have hil := hS.scn.le
    obtain ⟨hq, k0, k1, k2, k3, k4, k5, k6⟩ := hS.scn.cells
    clear hS hpre hdi
    by_cases hj : i < gs.length
    · have hj' : (i : Int) < (gs.length : Int) := by omega
      have hgi : gs[i]? = some (gs[i]'hj) := List.getElem?_eq_getElem hj
      have hdr := List.drop_eq_getElem_cons hj
      generalize gs[i]'hj = g at hgi hdr
      have HG := hide hgi
      have HDR := hide hdr
      clear hgi hdr
      go_wp2_with fail
      go_quiet (fail)
      have HS1 := hide (HS.out.below (gdrewN (Below.refl _ _) nq))
      clear HS k0 k1 k2 k3 k4 k5 k6 hq
      generalize wr.drewN nq = w1 at HS1 ⊢
      go_wp2_with fail
      refine (place_any w1 q s _ gs i e HS1.out.scn).mono ?_
      rintro r w2 ⟨rfl, hb2⟩
      have HS2 := hide (HS1.out.below hb2)
      rw [HDR.out]
      simp only [plf]
      clear hb2 HS1
      unfold Pl.v
      go_wp2_with fail
      have HS3 := hide (HS2.out.below ((Below.refl _ _).alloc (Nat.le_refl _) (.cells #[.int .i64 g.pl.b, .int .i64 g.pl.g, .int .i64 g.pl.l, .int .i64 g.pl.c] 26)))
      have hp3 : PlB (w2.alloc (.cells #[.int .i64 g.pl.b, .int .i64 g.pl.g, .int .i64 g.pl.l, .int .i64 g.pl.c] 26)) w2.heap.size g.pl := heap_alloc_new w2 _
      have ha3 : w2.heap.size ≠ q ∧ w2.heap.size ≠ f := by have := HS2.out.siz; have := HS2.out.qB; have := HS2.out.fB; omega
      clear HS2
      generalize w2.alloc (.cells #[.int .i64 g.pl.b, .int .i64 g.pl.g, .int .i64 g.pl.l, .int .i64 g.pl.c] 26) = w3 at HS3 hp3 ⊢
      generalize w2.heap.size = a7 at ha3 hp3 ⊢
      have HP3 := hide hp3
      clear hp3
      refine (token_any w3 q s _ gs i e HS3.out.scn (by omega) HQ.out hs g HG.out).mono ?_
      rintro r w4 ⟨o, ho, hO⟩
      obtain ⟨kd, tx, kk, rfl, hV⟩ := hO.v
      have HV := hide hV
      have HO := hide ho
      have HP4 := hide (HP3.out.tq hV.tq ha3.1)
      have HZ4 := hide (HS3.out.zer.tq hV.tq hfq)
      have HB4 := hide (below_tq HS3.out.bel hV.tq HS3.out.qw (Nat.le_refl _))
      clear hO hV ho HP3
      obtain ⟨hf7, p0, p1, p2, p3⟩ := HP4.out.cells
      by_cases hk : kk = 0
      · subst hk
        cases o with
        | bad k =>
          exfalso
          obtain ⟨h1, h2, _⟩ := HV.out.out
          simp only [tok0, Ending.returned.injEq, Value.tuple.injEq, Array.mk.injEq, List.cons.injEq, Value.int.injEq, true_and, and_true] at h2
          exact h1 h2.2.symm
        | ok kind text rest' =>
          obtain ⟨h2, hT4, j, hij, hdj, hS4⟩ := HV.out.out
          simp only [Ending.returned.injEq, Value.tuple.injEq, Array.mk.injEq, List.cons.injEq, Value.int.injEq, Value.agg.injEq, Value.string.injEq, true_and, and_true] at h2
          obtain ⟨rfl, rfl⟩ := h2
          have HS4 := hide (HS3.out.tq hT4 hS4)
          have HDJ := hide hdj
          clear hT4 hS4 hdj HS3 HV HZ4 HB4
          have hone : ∀ u ∈ ([.int .i64 kd, .string tx, .int .i64 g.pl.b, .int .i64 g.pl.g, .int .i64 g.pl.l, .int .i64 g.pl.c] : List Value), u.oneCell' = true := by
            intro u hu
            simp only [List.mem_cons, List.not_mem_nil, or_false] at hu
            rcases hu with rfl | rfl | rfl | rfl | rfl | rfl <;> rfl
          have hown := own_below (own_below HS4.out.own ((Below.refl _ _).alloc (Nat.le_refl _) (.cells #[.int .i64 kd, .string tx, .int .i64 g.pl.b, .int .i64 g.pl.g, .int .i64 g.pl.l, .int .i64 g.pl.c] 32))) ((Below.refl _ _).alloc (Nat.le_refl _) (.cells #[.int .i64 kd, .string tx, .int .i64 g.pl.b, .int .i64 g.pl.g, .int .i64 g.pl.l, .int .i64 g.pl.c] 32))
          have hsz := HS4.out.siz
          go_wp2_with (at_builtin; refine wpList_append_lies _ rfl (.tmp 55) (.tmp 57) 23 rfl B 32 i0 _ 6 56 Tryd.underlying23 hi0 hz0 hz1 hz2 rfl (by decide) (.slice ta ts.length tc) ts.length (tflat ts) (by simp [Act.eval]) hown ⟨w4.heap.size + 1, 0, none⟩ 1 1 [.int .i64 kd, .string tx, .int .i64 g.pl.b, .int .i64 g.pl.g, .int .i64 g.pl.l, .int .i64 g.pl.c] (by simp [Act.eval]) rfl (by have := World.news_of_block (heap_alloc_new (w4.alloc (.cells #[.int .i64 kd, .string tx, .int .i64 g.pl.b, .int .i64 g.pl.g, .int .i64 g.pl.l, .int .i64 g.pl.c] 32)) (.cells #[.int .i64 kd, .string tx, .int .i64 g.pl.b, .int .i64 g.pl.g, .int .i64 g.pl.l, .int .i64 g.pl.c] 32)); rwa [World.size_alloc] at this) hone (by omega) (by unfold maxLen; omega) (by omega) (by simp [World.size_alloc]; omega) _ rfl ?_; intro g1 cap1 w5 hown5 hgrow5 hat5 hlt5)
          have HS5 := hide ((HS4.out.below (below_two _ _ _)).more (t := ⟨kd, tx, g.pl⟩) hgrow5 (by simpa [tflat_append, tflat] using hown5))
          clear hown5 hgrow5 hat5 hlt5 hown hone hsz HS4
          refine (skip_any w5 q s _ gs j e HS5.out.scn (by omega)).mono ?_
          rintro r w6 ⟨rfl, ht6, j6, hj6, hdj6, hS6⟩
          have HS6 := hide (HS5.out.tq ht6 hS6)
          have HD6 := hide hdj6
          clear ht6 hS6 hdj6 HS5
          go_wp2
          go_roundw
          case rel =>
            refine ⟨ts ++ [⟨kd, tx, g.pl⟩], j6, some ⟨g1, 0, none⟩, cap1, rest', by simp, ?_, by simp; omega, by rw [HD6.out, HDJ.out], ?_⟩
            · have := HS6.out
              simpa using this
            · intro o ho
              have h1 := HE.out _ (ScanR.tok rest g (gs.drop (i + 1)) kd tx rest' o (by rw [← HDI.out, HDR.out]) HO.out ho)
              rwa [pres_pre] at h1
          case measure => rw [IP.out, HS6.out.scn.nxt]; have := HS6.out.scn.le; omega
      · have hk' : (kk != 0) = true := by simp [hk]
        cases o with
        | ok kind text rest' =>
          exfalso
          obtain ⟨h2, _⟩ := HV.out.out
          simp only [Ending.returned.injEq, Value.tuple.injEq, Array.mk.injEq, List.cons.injEq, Value.int.injEq, Value.agg.injEq, Value.string.injEq, true_and, and_true] at h2
          exact hk h2.2
        | bad k =>
          obtain ⟨h1, h2, _⟩ := HV.out.out
          simp only [tok0, Ending.returned.injEq, Value.tuple.injEq, Array.mk.injEq, List.cons.injEq, Value.int.injEq, Value.agg.injEq, Value.string.injEq, true_and, and_true] at h2
          have hkk : kk = k := h2.2
          have HKK := hide hkk
          clear h2 hkk HV
          obtain ⟨hff, y0, y1, y2, y3⟩ := HZ4.out.cells
          have f0 := frozen_of_row w4 f 0 _ _ HZ4.out
          have f1 := frozen_of_row w4 f 1 _ _ HZ4.out
          have f2 := frozen_of_row w4 f 2 _ _ HZ4.out
          have f3 := frozen_of_row w4 f 3 _ _ HZ4.out
          go_wp2_with fail
          go_region
          go_wp2
          have hX : PlB ((((((w4.setCell ⟨f, 0, none⟩ (.int .i64 g.pl.b)).setCell ⟨f, 1, none⟩ (.int .i64 g.pl.g)).setCell ⟨f, 2, none⟩ (.int .i64 g.pl.l)).setCell ⟨f, 3, none⟩ (.int .i64 g.pl.c)).alloc (.cells #[.int .i64 kd, .string tx, .int .i64 0, .int .i64 0, .int .i64 0, .int .i64 0] 32)).drew) f g.pl := (plB_fill HZ4.out).below (((Below.refl _ _).alloc (Nat.le_refl _) _).drew)
          have hXB : Below w.heap.size w ((((((w4.setCell ⟨f, 0, none⟩ (.int .i64 g.pl.b)).setCell ⟨f, 1, none⟩ (.int .i64 g.pl.g)).setCell ⟨f, 2, none⟩ (.int .i64 g.pl.l)).setCell ⟨f, 3, none⟩ (.int .i64 g.pl.c)).alloc (.cells #[.int .i64 kd, .string tx, .int .i64 0, .int .i64 0, .int .i64 0, .int .i64 0] 32)).drew) := ((fill_below HB4.out hf _ _ _ _).alloc (by have := HB4.out.size; simpa [World.setCell] using this) _).drew
          generalize ((((((w4.setCell ⟨f, 0, none⟩ (.int .i64 g.pl.b)).setCell ⟨f, 1, none⟩ (.int .i64 g.pl.g)).setCell ⟨f, 2, none⟩ (.int .i64 g.pl.l)).setCell ⟨f, 3, none⟩ (.int .i64 g.pl.c)).alloc (.cells #[.int .i64 kd, .string tx, .int .i64 0, .int .i64 0, .int .i64 0, .int .i64 0] 32)).drew) = wf at hX hXB ⊢
          obtain ⟨_, x0, x1, x2, x3⟩ := hX.cells
          refine bodyPost_ret (v := _) (by simp [results, Tryd.results8, go_sem, x0, x1, x2, x3]; try rfl) rfl ⟨hXB, gs, e, .bad k g.pl, HQ.out, HE.out _ (ScanR.bad rest g (gs.drop (i + 1)) k (by rw [← HDI.out, HDR.out]) HO.out), ?_⟩
          show _ = _
          rw [HKK.out]
          rfl
    · have hdr : gs.drop i = [] := List.drop_eq_nil_of_le (by omega)
      rw [hdr] at HDI
      have hj' : decide ((i : Int) < (gs.length : Int)) = false := by simp; omega
      clear hdr
      by_cases hbe : e.b < s.size
      · have hbe' : (e.b : Int) < (s.size : Int) := by omega
        obtain ⟨hff, y0, y1, y2, y3⟩ := HS.out.zer.cells
        have f0 := frozen_of_row wr f 0 _ _ HS.out.zer
        have f1 := frozen_of_row wr f 1 _ _ HS.out.zer
        have f2 := frozen_of_row wr f 2 _ _ HS.out.zer
        have f3 := frozen_of_row wr f 3 _ _ HS.out.zer
        go_wp2_with fail
        go_quiet (fail)
        go_wp2_with fail
        go_region
        go_wp2
        refine bodyPost_ret (v := _) (by simp [results, Tryd.results8, go_sem, y0, y1, y2, y3]; try rfl) rfl ⟨?_, gs, e, .bad 40 e, HQ.out, HE.out _ (ScanR.rune rest HDI.out.symm hbe), rfl⟩
        have hB := HS.out.bel
        (repeat' (first | (with_reducible exact Below.refl _ _) | (with_reducible assumption) | (with_reducible refine gdrewN ?_ _) | (with_reducible refine Below.alloc ?_ ?_ _) | (with_reducible refine Below.drew ?_) | (with_reducible refine Below.setCell ?_ ?_ _) | go_size))
      · have hbe' : decide ((e.b : Int) < (s.size : Int)) = false := by simp; omega
        have hone : ∀ u ∈ ([.int .i64 0, .string ⟨#[]⟩, .int .i64 e.b, .int .i64 e.g, .int .i64 e.l, .int .i64 e.c] : List Value), u.oneCell' = true := by
          intro u hu
          simp only [List.mem_cons, List.not_mem_nil, or_false] at hu
          rcases hu with rfl | rfl | rfl | rfl | rfl | rfl <;> rfl
        go_wp2_with fail
        go_quiet (fail)
        have HS1 := hide (HS.out.below (gdrewN (Below.refl _ _) nq))
        clear HS k0 k1 k2 k3 k4 k5 k6 hq
        generalize wr.drewN nq = w1 at HS1 ⊢
        obtain ⟨hq, k0, k1, k2, k3, k4, k5, k6⟩ := HS1.out.scn.cells
        have hown := own_below HS1.out.own ((Below.refl _ _).alloc (Nat.le_refl _) (.cells #[.int .i64 0, .string ⟨#[]⟩, .int .i64 e.b, .int .i64 e.g, .int .i64 e.l, .int .i64 e.c] 32))
        have hsz := HS1.out.siz
        go_wp2_with (at_builtin; refine wpList_append_lies _ rfl (.tmp 71) (.tmp 77) 23 rfl B 32 i0 _ 6 56 Tryd.underlying23 hi0 hz0 hz1 hz2 rfl (by decide) (.slice ta ts.length tc) ts.length (tflat ts) (by simp [Act.eval]) hown ⟨w1.heap.size, 0, none⟩ 1 1 [.int .i64 0, .string ⟨#[]⟩, .int .i64 e.b, .int .i64 e.g, .int .i64 e.l, .int .i64 e.c] (by simp [Act.eval]) rfl (World.news_of_block (heap_alloc_new w1 (.cells #[.int .i64 0, .string ⟨#[]⟩, .int .i64 e.b, .int .i64 e.g, .int .i64 e.l, .int .i64 e.c] 32))) hone (by omega) (by unfold maxLen; omega) (by omega) (by simp [World.size_alloc]; omega) _ rfl ?_; intro g1 cap1 w5 hown5 hgrow5 hat5 hlt5; have HS5 := hide ((HS1.out.below ((Below.refl _ _).alloc (Nat.le_refl _) _)).more (t := ⟨0, ⟨#[]⟩, e⟩) hgrow5 (by simpa [tflat_append, tflat] using hown5)); obtain ⟨hff, y0, y1, y2, y3⟩ := HS5.out.zer.cells; have f0 := frozen_of_row w5 f 0 _ _ HS5.out.zer; have f1 := frozen_of_row w5 f 1 _ _ HS5.out.zer; have f2 := frozen_of_row w5 f 2 _ _ HS5.out.zer; have f3 := frozen_of_row w5 f 3 _ _ HS5.out.zer; clear hown5 hgrow5 hat5 hlt5)
        refine bodyPost_ret (v := .tuple #[.slice (some ⟨g1, 0, none⟩) (ts.length + 1) cap1, .int .i64 0, plz.v]) (by simp [results, Tryd.results8, go_sem, y0, y1, y2, y3, plz, Pl.v]) rfl ⟨?_, gs, e, .ok (ts ++ [(⟨0, ⟨#[]⟩, e⟩ : Tk)]), HQ.out, HE.out _ (ScanR.done rest HDI.out.symm (by omega)), _, rfl, ?_⟩
        · have hB := HS5.out.bel
          (repeat' (first | (with_reducible exact Below.refl _ _) | (with_reducible assumption) | (with_reducible refine gdrewN ?_ _) | (with_reducible refine Below.alloc ?_ ?_ _) | (with_reducible refine Below.drew ?_) | (with_reducible refine Below.setCell ?_ ?_ _) | go_size))
        · have e5 : (ts ++ [(⟨0, ⟨#[]⟩, e⟩ : Tk)]).length = ts.length + 1 := by simp
          have h5 := HS5.out.own
          rw [e5] at h5 ⊢
          refine own_mono (own_keep h5 ?_) (show w.heap.size ≤ B by omega)
          intro k o hk he
          have hkf : k ≠ f := by omega
          rw [heap_setCell_other _ ⟨f, 3, none⟩ k _ hkf, heap_setCell_other _ ⟨f, 2, none⟩ k _ hkf, heap_setCell_other _ ⟨f, 1, none⟩ k _ hkf, heap_setCell_other _ ⟨f, 0, none⟩ k _ hkf]
          exact he
theorem scan_any (w : World) (s : ByteArray) (hT : Tabs w) :
    Calls Tryd.prog 8 #[.string s] w fun r w' => Below w.heap.size w w' ∧ ((4096 < s.size ∧ r = .returned (.tuple #[.slice none 0 0, .int .i64 2, plz.v])) ∨ (s.size ≤ 4096 ∧ ∃ gs e o, Snd s pl0 gs e ∧ ScanR s e gs o ∧ ScanO w w' r o)) := by
  by_cases hs : 4096 < s.size
  · exact (scan_long w s hs).mono fun r w' h => ⟨h.1, .inl ⟨hs, h.2⟩⟩
  · exact (scan_short w s hT (by omega)).mono fun r w' h => ⟨h.1, .inr ⟨by omega, h.2⟩⟩
end Lm
end Go.Proofs.YtnodfclgkalbfabDoor

namespace Go.Proofs.YtnodfclgkalbfabDoor
namespace Lm
open Go Go.RowKit
def GlyA (w w' : World) (r : Ending) (s : ByteArray) (gs : List Gl) (e : Pl) : Prop :=
  (e.b < s.size ∧ r = .returned (.tuple #[.slice none 0 0, .int .i64 40, e.v])) ∨ (s.size ≤ e.b ∧ ∃ v, r = .returned (.tuple #[v, .int .i64 0, plz.v]) ∧ w'.ownsRow w.heap.size 70 6 v gs.length (gflat gs))
set_option maxRecDepth 20000 in
set_option maxHeartbeats 1000000 in
theorem glyphs_long (w : World) (s : ByteArray) (hs : 4096 < s.size) :
    Calls Tryd.prog 11 #[.string s] w fun r w' => Below w.heap.size w w' ∧ r = .returned (.tuple #[.slice none 0 0, .int .i64 2, plz.v]) := by
  have hs' : (4096 : Int) < (s.size : Int) := by omega
  go_enter Tryd.func11, Tryd.ntmps11
  go_wp2
  refine bodyPost_ret (v := _) (by simp [results, Tryd.results11, go_sem]; try rfl) rfl ⟨?_, rfl⟩
  (repeat' (first | (with_reducible exact Below.refl _ _) | (with_reducible assumption) | (with_reducible refine gdrewN ?_ _) | (with_reducible refine Below.alloc ?_ ?_ _) | (with_reducible refine Below.drew ?_) | (with_reducible refine Below.setCell ?_ ?_ _) | go_size))
set_option maxRecDepth 20000 in
set_option maxHeartbeats 1000000 in
theorem glyphs_short (w : World) (s : ByteArray) (hT : Tabs w) (hs : s.size ≤ 4096) :
    Calls Tryd.prog 11 #[.string s] w fun r w' => Below w.heap.size w w' ∧ ∃ gs e, Snd s pl0 gs e ∧ GlyA w w' r s gs e := by
  have hs' : decide ((4096 : Int) < (s.size : Int)) = false := by simp; omega
  go_enter Tryd.func11, Tryd.ntmps11
  go_wp2_with fail
  refine (sound_any _ _ (hT.below (by (repeat' (first | (with_reducible exact Below.refl _ _) | (with_reducible assumption) | (with_reducible refine gdrewN ?_ _) | (with_reducible refine Below.alloc ?_ ?_ _) | (with_reducible refine Below.drew ?_) | (with_reducible refine Below.setCell ?_ ?_ _) | go_size)))) hs).mono ?_
  rintro r w1 ⟨gs, e, v, hQ, rfl, hown, hb1⟩
  obtain ⟨ao, cap, rfl⟩ := own_slice hown
  have hsz0 : (w.alloc (.cells #[.int .i64 0, .int .i64 0, .int .i64 0, .int .i64 0] 26)).heap.size = w.heap.size + 1 := World.size_alloc w _
  have hbq := hb1
  rw [hsz0] at hown hbq
  have hfb : PlB w1 w.heap.size plz := (hbq.block w.heap.size (by omega)).trans (heap_alloc_new w _)
  have hb1w : Below w.heap.size w w1 := ((Below.refl _ _).alloc (Nat.le_refl _) _).trans (hbq.mono (by omega))
  have HOWN := hide hown
  have HB := hide hb1w
  have HFB := hide hfb
  have hw1 : w.heap.size + 1 ≤ w1.heap.size := by have := hbq.size; rwa [hsz0] at this
  obtain ⟨hff, y0, y1, y2, y3⟩ := hfb.cells
  have f0 := frozen_of_row w1 w.heap.size 0 _ _ hfb
  have f1 := frozen_of_row w1 w.heap.size 1 _ _ hfb
  have f2 := frozen_of_row w1 w.heap.size 2 _ _ hfb
  have f3 := frozen_of_row w1 w.heap.size 3 _ _ hfb
  clear hown hbq hfb hb1 hb1w hsz0 hT
  unfold Pl.v
  by_cases hbe : e.b < s.size
  · have hbe' : (e.b : Int) < (s.size : Int) := by omega
    go_wp2_with fail
    go_region
    go_wp2
    have hX : PlB ((((((w1.setCell ⟨w.heap.size, 0, none⟩ (.int .i64 e.b)).setCell ⟨w.heap.size, 1, none⟩ (.int .i64 e.g)).setCell ⟨w.heap.size, 2, none⟩ (.int .i64 e.l)).setCell ⟨w.heap.size, 3, none⟩ (.int .i64 e.c)).alloc (.cells #[.int .i64 e.b, .int .i64 e.g, .int .i64 e.l, .int .i64 e.c] 26)).drew) w.heap.size e := (plB_fill HFB.out).below (((Below.refl _ _).alloc (Nat.le_refl _) _).drew)
    have hXB : Below w.heap.size w ((((((w1.setCell ⟨w.heap.size, 0, none⟩ (.int .i64 e.b)).setCell ⟨w.heap.size, 1, none⟩ (.int .i64 e.g)).setCell ⟨w.heap.size, 2, none⟩ (.int .i64 e.l)).setCell ⟨w.heap.size, 3, none⟩ (.int .i64 e.c)).alloc (.cells #[.int .i64 e.b, .int .i64 e.g, .int .i64 e.l, .int .i64 e.c] 26)).drew) := ((fill_below HB.out (Nat.le_refl _) _ _ _ _).alloc (by have := HB.out.size; simpa [World.setCell] using this) _).drew
    generalize ((((((w1.setCell ⟨w.heap.size, 0, none⟩ (.int .i64 e.b)).setCell ⟨w.heap.size, 1, none⟩ (.int .i64 e.g)).setCell ⟨w.heap.size, 2, none⟩ (.int .i64 e.l)).setCell ⟨w.heap.size, 3, none⟩ (.int .i64 e.c)).alloc (.cells #[.int .i64 e.b, .int .i64 e.g, .int .i64 e.l, .int .i64 e.c] 26)).drew) = wf at hX hXB ⊢
    obtain ⟨_, x0, x1, x2, x3⟩ := hX.cells
    exact bodyPost_ret (v := _) (by simp [results, Tryd.results11, go_sem, x0, x1, x2, x3]; try rfl) rfl ⟨hXB, gs, e, hQ, .inl ⟨hbe, rfl⟩⟩
  · have hbe' : decide ((e.b : Int) < (s.size : Int)) = false := by simp; omega
    go_wp2
    have hX : PlB (((((w1.setCell ⟨w.heap.size, 0, none⟩ (.int .i64 0)).setCell ⟨w.heap.size, 1, none⟩ (.int .i64 0)).setCell ⟨w.heap.size, 2, none⟩ (.int .i64 0)).setCell ⟨w.heap.size, 3, none⟩ (.int .i64 0)).alloc (.cells #[.int .i64 e.b, .int .i64 e.g, .int .i64 e.l, .int .i64 e.c] 26)) w.heap.size plz := (plB_fill (p' := plz) HFB.out).below ((Below.refl _ _).alloc (Nat.le_refl _) _)
    have hXB : Below w.heap.size w (((((w1.setCell ⟨w.heap.size, 0, none⟩ (.int .i64 0)).setCell ⟨w.heap.size, 1, none⟩ (.int .i64 0)).setCell ⟨w.heap.size, 2, none⟩ (.int .i64 0)).setCell ⟨w.heap.size, 3, none⟩ (.int .i64 0)).alloc (.cells #[.int .i64 e.b, .int .i64 e.g, .int .i64 e.l, .int .i64 e.c] 26)) := (fill_below HB.out (Nat.le_refl _) _ _ _ _).alloc (by have := HB.out.size; simpa [World.setCell] using this) _
    have hXO : World.ownsRow (((((w1.setCell ⟨w.heap.size, 0, none⟩ (.int .i64 0)).setCell ⟨w.heap.size, 1, none⟩ (.int .i64 0)).setCell ⟨w.heap.size, 2, none⟩ (.int .i64 0)).setCell ⟨w.heap.size, 3, none⟩ (.int .i64 0)).alloc (.cells #[.int .i64 e.b, .int .i64 e.g, .int .i64 e.l, .int .i64 e.c] 26)) w.heap.size 70 6 (.slice ao gs.length cap) gs.length (gflat gs) := by
      refine own_mono (own_below (own_keep HOWN.out ?_) ((Below.refl _ _).alloc (Nat.le_refl _) _)) (show w.heap.size ≤ w.heap.size + 1 + 2 by omega)
      intro k o hk he
      have hkf : k ≠ w.heap.size := by omega
      rw [heap_setCell_other _ ⟨w.heap.size, 3, none⟩ k _ hkf, heap_setCell_other _ ⟨w.heap.size, 2, none⟩ k _ hkf, heap_setCell_other _ ⟨w.heap.size, 1, none⟩ k _ hkf, heap_setCell_other _ ⟨w.heap.size, 0, none⟩ k _ hkf]
      exact he
    generalize (((((w1.setCell ⟨w.heap.size, 0, none⟩ (.int .i64 0)).setCell ⟨w.heap.size, 1, none⟩ (.int .i64 0)).setCell ⟨w.heap.size, 2, none⟩ (.int .i64 0)).setCell ⟨w.heap.size, 3, none⟩ (.int .i64 0)).alloc (.cells #[.int .i64 e.b, .int .i64 e.g, .int .i64 e.l, .int .i64 e.c] 26)) = wf at hX hXB hXO ⊢
    obtain ⟨_, x0, x1, x2, x3⟩ := hX.cells
    exact bodyPost_ret (v := .tuple #[.slice ao gs.length cap, .int .i64 0, plz.v]) (by simp [results, Tryd.results11, go_sem, x0, x1, x2, x3]; try rfl) rfl ⟨hXB, gs, e, hQ, .inr ⟨by omega, _, rfl, hXO⟩⟩
end Lm
end Go.Proofs.YtnodfclgkalbfabDoor

namespace Go.Proofs.YtnodfclgkalbfabDoor
namespace Lm
open Go Go.RowKit
theorem snd_step {s : ByteArray} {p e : Pl} {gs : List Gl} {c k : Nat} (h : p.b < s.size) (hd : Utf8.decode s p.b = (c, k)) (hc : (c, k) ≠ (65533, 1)) (hr : Snd s (p.past c k) gs e) : Snd s p (⟨c, p⟩ :: gs) e := by
  have := Snd.go p gs e h (by rw [hd]; exact hc) (by rw [hd]; exact hr)
  rwa [hd] at this
theorem tok_name {s : ByteArray} {e : Pl} {g : Gl} {r t : List Gl} {x : ByteArray} (h : gcls g.code = 2) (ht : (g :: r).dropWhile (inC [2, 3, 4]) = t) (hl : ¬ 16 < (g :: r).length - t.length) (hx : s.extract g.pl.b (plf t e).b = x) : TokR s e g r (.ok 1 x t) := by
  have := tokR_name (s := s) (e := e) (r := r) h
  rwa [ht, if_neg hl, hx] at this
def aws : ByteArray := ⟨#[206, 177, 32, 226, 137, 148, 32, 50, 120]⟩
theorem aws_snd : Snd aws pl0 [⟨945, ⟨0, 0, 1, 1⟩⟩, ⟨32, ⟨2, 1, 1, 2⟩⟩, ⟨8788, ⟨3, 2, 1, 3⟩⟩, ⟨32, ⟨6, 3, 1, 4⟩⟩, ⟨50, ⟨7, 4, 1, 5⟩⟩, ⟨120, ⟨8, 5, 1, 6⟩⟩] ⟨9, 6, 1, 7⟩ := by
  refine snd_step (k := 2) (by decide) (by kernel_rfl) (by decide) ?_
  refine snd_step (p := ⟨2, 1, 1, 2⟩) (k := 1) (by decide) (by kernel_rfl) (by decide) ?_
  refine snd_step (p := ⟨3, 2, 1, 3⟩) (k := 3) (by decide) (by kernel_rfl) (by decide) ?_
  refine snd_step (p := ⟨6, 3, 1, 4⟩) (k := 1) (by decide) (by kernel_rfl) (by decide) ?_
  refine snd_step (p := ⟨7, 4, 1, 5⟩) (k := 1) (by decide) (by kernel_rfl) (by decide) ?_
  refine snd_step (p := ⟨8, 5, 1, 6⟩) (k := 1) (by decide) (by kernel_rfl) (by decide) ?_
  exact .stop ⟨9, 6, 1, 7⟩ (.inl (by decide))
theorem aws_scan : ScanR aws ⟨9, 6, 1, 7⟩ [⟨945, ⟨0, 0, 1, 1⟩⟩, ⟨32, ⟨2, 1, 1, 2⟩⟩, ⟨8788, ⟨3, 2, 1, 3⟩⟩, ⟨32, ⟨6, 3, 1, 4⟩⟩, ⟨50, ⟨7, 4, 1, 5⟩⟩, ⟨120, ⟨8, 5, 1, 6⟩⟩] (.ok [⟨1, ⟨#[206, 177]⟩, ⟨0, 0, 1, 1⟩⟩, ⟨3, ⟨#[58, 61]⟩, ⟨3, 2, 1, 3⟩⟩, ⟨2, ⟨#[50]⟩, ⟨7, 4, 1, 5⟩⟩, ⟨1, ⟨#[120]⟩, ⟨8, 5, 1, 6⟩⟩, ⟨0, ⟨#[]⟩, ⟨9, 6, 1, 7⟩⟩]) := by
  refine ScanR.tok _ ⟨945, ⟨0, 0, 1, 1⟩⟩ [⟨32, ⟨2, 1, 1, 2⟩⟩, ⟨8788, ⟨3, 2, 1, 3⟩⟩, ⟨32, ⟨6, 3, 1, 4⟩⟩, ⟨50, ⟨7, 4, 1, 5⟩⟩, ⟨120, ⟨8, 5, 1, 6⟩⟩] 1 ⟨#[206, 177]⟩ [⟨32, ⟨2, 1, 1, 2⟩⟩, ⟨8788, ⟨3, 2, 1, 3⟩⟩, ⟨32, ⟨6, 3, 1, 4⟩⟩, ⟨50, ⟨7, 4, 1, 5⟩⟩, ⟨120, ⟨8, 5, 1, 6⟩⟩] (.ok [⟨3, ⟨#[58, 61]⟩, ⟨3, 2, 1, 3⟩⟩, ⟨2, ⟨#[50]⟩, ⟨7, 4, 1, 5⟩⟩, ⟨1, ⟨#[120]⟩, ⟨8, 5, 1, 6⟩⟩, ⟨0, ⟨#[]⟩, ⟨9, 6, 1, 7⟩⟩]) (by kernel_rfl) (tok_name (by kernel_rfl) (by kernel_rfl) (by decide) (by kernel_rfl)) ?_
  refine ScanR.tok _ ⟨8788, ⟨3, 2, 1, 3⟩⟩ [⟨32, ⟨6, 3, 1, 4⟩⟩, ⟨50, ⟨7, 4, 1, 5⟩⟩, ⟨120, ⟨8, 5, 1, 6⟩⟩] 3 ⟨#[58, 61]⟩ [⟨32, ⟨6, 3, 1, 4⟩⟩, ⟨50, ⟨7, 4, 1, 5⟩⟩, ⟨120, ⟨8, 5, 1, 6⟩⟩] (.ok [⟨2, ⟨#[50]⟩, ⟨7, 4, 1, 5⟩⟩, ⟨1, ⟨#[120]⟩, ⟨8, 5, 1, 6⟩⟩, ⟨0, ⟨#[]⟩, ⟨9, 6, 1, 7⟩⟩]) (by kernel_rfl) (tokR_sign (by kernel_rfl)) ?_
  have hnum : TokR aws ⟨9, 6, 1, 7⟩ ⟨50, ⟨7, 4, 1, 5⟩⟩ [⟨120, ⟨8, 5, 1, 6⟩⟩] (.ok 2 ⟨#[50]⟩ [⟨120, ⟨8, 5, 1, 6⟩⟩]) := by
    have hv : dval (bytesOf (aws.extract 7 8)) = 2 := by kernel_rfl
    have h1 : IsLen (dval (bytesOf (aws.extract 7 8))) 1 := ⟨[2], ⟨by intro z hz; simp at hz; omega, by kernel_rfl⟩, by rw [hv]; kernel_rfl, rfl⟩
    have h2 : IsDec [50] (dval (bytesOf (aws.extract 7 8))) := ⟨by intro z hz; simp at hz; omega, by rw [hv]; kernel_rfl, .inr ⟨50, [], rfl, by decide⟩⟩
    exact tokR_num (s := aws) (e := ⟨9, 6, 1, 7⟩) (g := ⟨50, ⟨7, 4, 1, 5⟩⟩) (r := [⟨120, ⟨8, 5, 1, 6⟩⟩]) (n := 1) (ds := [50]) (by kernel_rfl) h1 h2
  refine ScanR.tok _ ⟨50, ⟨7, 4, 1, 5⟩⟩ [⟨120, ⟨8, 5, 1, 6⟩⟩] 2 ⟨#[50]⟩ [⟨120, ⟨8, 5, 1, 6⟩⟩] (.ok [⟨1, ⟨#[120]⟩, ⟨8, 5, 1, 6⟩⟩, ⟨0, ⟨#[]⟩, ⟨9, 6, 1, 7⟩⟩]) (by kernel_rfl) hnum ?_
  refine ScanR.tok _ ⟨120, ⟨8, 5, 1, 6⟩⟩ [] 1 ⟨#[120]⟩ [] (.ok [⟨0, ⟨#[]⟩, ⟨9, 6, 1, 7⟩⟩]) (by kernel_rfl) (tok_name (by kernel_rfl) (by kernel_rfl) (by decide) (by kernel_rfl)) ?_
  exact ScanR.done _ (by kernel_rfl) (by decide)
set_option maxRecDepth 20000 in
set_option maxHeartbeats 1000000 in
theorem gawake_any (w : World) (hT : Tabs w) :
    Calls Tryd.prog 7 #[] w fun r w' => r = .returned (.bool true) ∧ Below w.heap.size w w' := by
  have K : Calls Tryd.prog 8 #[.string ⟨#[206, 177, 32, 226, 137, 148, 32, 50, 120]⟩] w fun r w' => Below w.heap.size w w' ∧ ∃ v, r = .returned (.tuple #[v, .int .i64 0, .agg #[.int .i64 0, .int .i64 0, .int .i64 0, .int .i64 0]]) ∧ w'.ownsRow w.heap.size 32 6 v 5 (tflat [⟨1, ⟨#[206, 177]⟩, ⟨0, 0, 1, 1⟩⟩, ⟨3, ⟨#[58, 61]⟩, ⟨3, 2, 1, 3⟩⟩, ⟨2, ⟨#[50]⟩, ⟨7, 4, 1, 5⟩⟩, ⟨1, ⟨#[120]⟩, ⟨8, 5, 1, 6⟩⟩, ⟨0, ⟨#[]⟩, ⟨9, 6, 1, 7⟩⟩]) := by
    refine (scan_any w aws hT).mono ?_
    rintro r w' ⟨hb, ⟨h, _⟩ | ⟨_, gs, e, o, h1, h2, h3⟩⟩
    · exact absurd h (by decide)
    · obtain ⟨rfl, rfl⟩ := h1.one aws_snd
      obtain rfl := h2.one aws_scan
      obtain ⟨v, h4, h5⟩ := h3
      exact ⟨hb, v, h4, h5⟩
  go_enter Tryd.func7, Tryd.ntmps7
  go_wp2_with fail
  refine K.mono ?_
  rintro r w1 ⟨hb, v, rfl, hown⟩
  have HB := hide hb
  obtain ⟨ao, cap, rfl, c1, c2, c3, c4⟩ := Ce.own hown
  rcases c4 with c4 | ⟨b, off, rfl, hl, hc⟩
  · omega
  have t0 : w1.cell? ⟨b, off + 1, none⟩ = some (.string ⟨#[206, 177]⟩) := hc 1 _ rfl
  have t1 : w1.cell? ⟨b, off + 6 + 1, none⟩ = some (.string ⟨#[58, 61]⟩) := hc 7 _ rfl
  have t2 : w1.cell? ⟨b, off + 12 + 1, none⟩ = some (.string ⟨#[50]⟩) := hc 13 _ rfl
  have t3 : w1.cell? ⟨b, off + 18 + 1, none⟩ = some (.string ⟨#[120]⟩) := hc 19 _ rfl
  have t4 : w1.cell? ⟨b, off + 24, none⟩ = some (.int .i64 0) := hc 24 _ rfl
  have hK2 : gcls 945 = 2 := by kernel_rfl
  clear hb hown c1 c2 c3 hc K
  go_wp2_with (go_at_call 15; refine (gcls_any _ _).mono ?_; rintro r w' ⟨rfl, rfl⟩)
  go_ret
  exact ⟨rfl, HB.out.alloc HB.out.size _⟩
end Lm
end Go.Proofs.YtnodfclgkalbfabDoor

namespace Go.Proofs.YtnodfclgkalbfabDoor
namespace Lm
open Go Go.RowKit
def outG (s : ByteArray) (gs : List Gl) (e : Pl) : Int × Pl × List Gl := if 4096 < s.size then (2, plz, []) else if e.b < s.size then (40, e, []) else (0, plz, gs)
theorem outG_long {s : ByteArray} {gs : List Gl} {e : Pl} (h : 4096 < s.size) : outG s gs e = (2, plz, []) := by unfold outG; rw [if_pos h]
theorem outG_bad {s : ByteArray} {gs : List Gl} {e : Pl} (h : ¬ 4096 < s.size) (h2 : e.b < s.size) : outG s gs e = (40, e, []) := by unfold outG; rw [if_neg h, if_pos h2]
theorem outG_ok {s : ByteArray} {gs : List Gl} {e : Pl} (h : ¬ 4096 < s.size) (h2 : ¬ e.b < s.size) : outG s gs e = (0, plz, gs) := by unfold outG; rw [if_neg h, if_neg h2]
def GlyU (w w' : World) (r : Ending) (k : Int) (P : Pl) (hs : List Gl) : Prop := ∃ v, r = .returned (.tuple #[v, .int .i64 k, P.v]) ∧ w'.ownsRow w.heap.size 70 6 v hs.length (gflat hs)
theorem GlyA.u {w w' : World} {r : Ending} {s : ByteArray} {gs : List Gl} {e : Pl} (hs : ¬ 4096 < s.size) (h : GlyA w w' r s gs e) : GlyU w w' r (outG s gs e).1 (outG s gs e).2.1 (outG s gs e).2.2 := by
  rcases h with ⟨h1, h2⟩ | ⟨h1, v, h2, h3⟩
  · rw [outG_bad hs h1]
    exact ⟨_, h2, World.ownsRow_nil _ _ _ _⟩
  · rw [outG_ok hs (by omega)]
    exact ⟨v, h2, h3⟩
theorem glyphs_u (w : World) (s : ByteArray) (hT : Tabs w) (gs : List Gl) (e : Pl) (hQ : Snd s pl0 gs e) :
    Calls Tryd.prog 11 #[.string s] w fun r w' => Below w.heap.size w w' ∧ GlyU w w' r (outG s gs e).1 (outG s gs e).2.1 (outG s gs e).2.2 := by
  by_cases hs : 4096 < s.size
  · refine (glyphs_long w s hs).mono ?_
    rintro r w' ⟨hb, rfl⟩
    rw [outG_long hs]
    exact ⟨hb, _, rfl, World.ownsRow_nil _ _ _ _⟩
  · refine (glyphs_short w s hT (by omega)).mono ?_
    rintro r w' ⟨hb, gs', e', hQ', hA⟩
    obtain ⟨rfl, rfl⟩ := hQ'.one hQ
    exact ⟨hb, hA.u hs⟩
theorem sameplace_eq (w : World) (p : Pl) :
    Calls Tryd.prog 12 #[p.v, p.v] w fun r w' => r = .returned (.bool true) ∧ Below w.heap.size w w' := by
  unfold Pl.v
  go_enter Tryd.func12, Tryd.ntmps12
  go_wp2
  go_ret
  exact ⟨rfl, below_two _ _ _⟩
end Lm
end Go.Proofs.YtnodfclgkalbfabDoor

namespace Go.Proofs.YtnodfclgkalbfabDoor
namespace Lm
open Go Go.RowKit
structure Ext (t T : ByteArray) : Prop where
  size : t.size < T.size
  low : ∀ i, i < t.size → T.get! i = t.get! i
  nl : (T.get! t.size).toNat = 10
theorem decN_ext {n n' b0 b1 b2 b3 c1 c2 c3 : Nat} (hn : 0 < n) (hnn : n < n') (h1 : 1 < n → c1 = b1) (h2 : 2 < n → c2 = b2) (h3 : 3 < n → c3 = b3) (e1 : n = 1 → c1 = 10) (e2 : n = 2 → c2 = 10) (e3 : n = 3 → c3 = 10) : Lib.decodeN n' b0 c1 c2 c3 = Lib.decodeN n b0 b1 b2 b3 := by
  by_cases g1 : n = 1
  · have := e1 g1
    subst g1
    unfold Lib.decodeN
    by_cases a : b0 < 128
    · rw [if_pos a, if_pos a]
    · rw [if_neg a, if_neg a, if_neg (by omega), if_neg (by omega), if_neg (by omega), if_neg (by omega), if_neg (by omega), if_neg (by omega)]
  · have q1 := h1 (by omega)
    subst q1
    by_cases g2 : n = 2
    · have := e2 g2
      subst g2
      unfold Lib.decodeN
      repeat' split
      all_goals first | (exfalso; omega) | with_reducible rfl
    · have q2 := h2 (by omega)
      subst q2
      by_cases g3 : n = 3
      · have := e3 g3
        subst g3
        unfold Lib.decodeN
        repeat' split
        all_goals first | (exfalso; omega) | with_reducible rfl
      · have q3 := h3 (by omega)
        subst q3
        unfold Lib.decodeN
        have p1 : (1 < n') = (1 < n) := propext ⟨fun _ => by omega, fun _ => by omega⟩
        have p2 : (2 < n') = (2 < n) := propext ⟨fun _ => by omega, fun _ => by omega⟩
        have p3 : (3 < n') = (3 < n) := propext ⟨fun _ => by omega, fun _ => by omega⟩
        simp only [p1, p2, p3]
theorem Ext.dec {t T : ByteArray} (h : Ext t T) {i : Nat} (hi : i < t.size) : Utf8.decode T i = Utf8.decode t i := by
  have hs := h.size
  have key : ∀ k, i + k = t.size → (T.get! (i + k)).toNat = 10 := fun k hk => by rw [hk]; exact h.nl
  have low : ∀ k, i + k < t.size → (T.get! (i + k)).toNat = (t.get! (i + k)).toNat := fun k hk => by rw [h.low _ hk]
  rw [Lib.decode_at, Lib.decode_at, h.low i hi]
  exact decN_ext (by omega) (by omega) (fun _ => low 1 (by omega)) (fun _ => low 2 (by omega)) (fun _ => low 3 (by omega)) (fun _ => key 1 (by omega)) (fun _ => key 2 (by omega)) (fun _ => key 3 (by omega))
theorem Ext.nlDec {t T : ByteArray} (h : Ext t T) : Utf8.decode T t.size = (10, 1) := by
  rw [Lib.decode_at, h.nl]
  unfold Lib.decodeN
  rw [if_pos (by omega)]
def Behind (X : List Gl) (e e' : Pl) : Prop := (X = [] ∧ e' = e) ∨ ∃ X', X = ⟨10, e⟩ :: X'
theorem Behind.plf {X : List Gl} {e e' : Pl} (h : Behind X e e') (r : List Gl) : plf (r ++ X) e' = plf r e := by
  cases r with
  | nil =>
    rcases h with ⟨rfl, rfl⟩ | ⟨X', rfl⟩
    · rfl
    · rfl
  | cons g r => rfl
theorem Behind.dropWhile {X : List Gl} {e e' : Pl} (h : Behind X e e') {cs : List Int} (hc : (1 : Int) ∉ cs) (r : List Gl) : (r ++ X).dropWhile (inC cs) = r.dropWhile (inC cs) ++ X := by
  induction r with
  | nil =>
    rcases h with ⟨rfl, rfl⟩ | ⟨X', rfl⟩
    · rfl
    · rw [List.nil_append, List.dropWhile_nil, List.nil_append, List.dropWhile_cons_of_neg]
      have : gcls ((10 : Nat) : Int) = 1 := by decide
      simp only [inC, this]
      simpa using hc
  | cons g r ih =>
    by_cases hg : inC cs g = true
    · rw [List.cons_append, List.dropWhile_cons_of_pos hg, List.dropWhile_cons_of_pos hg, ih]
    · rw [List.cons_append, List.dropWhile_cons_of_neg hg, List.dropWhile_cons_of_neg hg, List.cons_append]
theorem skp_app {g : Gl} {X : List Gl} : ∀ (c : Bool) (r r' : List Gl), skp c r = g :: r' → skp c (r ++ X) = g :: (r' ++ X)
  | c, [], r', h => by cases c <;> cases h
  | true, x :: r, r', h => by
    rw [skp] at h
    rw [List.cons_append, skp]
    exact skp_app _ r r' h
  | false, x :: r, r', h => by
    rw [skp] at h
    rw [List.cons_append, skp]
    by_cases h6 : gcls x.code = 6
    · rw [if_pos h6] at h ⊢
      exact skp_app _ r r' h
    · rw [if_neg h6] at h ⊢
      by_cases h1 : gcls x.code = 1
      · rw [if_pos h1] at h ⊢
        exact skp_app _ r r' h
      · rw [if_neg h1] at h ⊢
        obtain ⟨rfl, rfl⟩ := List.cons.inj h
        rfl
def TO.app (X : List Gl) : TO → TO
  | .bad k => .bad k
  | .ok kind text rest => .ok kind text (rest ++ X)
theorem TokR.app {t T : ByteArray} {e e' : Pl} {X : List Gl} (hX : Behind X e e') {g : Gl} {r : List Gl} {o : TO} (hx : ∀ r', (plf r' e).b ≤ t.size → T.extract g.pl.b (plf r' e).b = t.extract g.pl.b (plf r' e).b) (hb : ∀ cs, (plf ((g :: r).dropWhile (inC cs)) e).b ≤ t.size) (h : TokR t e g r o) : TokR T e' g (r ++ X) (o.app X) := by
  unfold TokR at h
  by_cases c2 : gcls g.code = 2
  · rw [if_pos c2] at h
    have := tokR_name (s := T) (e := e') (r := r ++ X) c2
    have hd : (g :: (r ++ X)).dropWhile (inC [2, 3, 4]) = (g :: r).dropWhile (inC [2, 3, 4]) ++ X := hX.dropWhile (by simp) (g :: r)
    have hl : (g :: (r ++ X)).length - ((g :: r).dropWhile (inC [2, 3, 4]) ++ X).length = (g :: r).length - ((g :: r).dropWhile (inC [2, 3, 4])).length := by simp; omega
    rw [hd, hX.plf, hl, hx _ (hb _)] at this
    rw [h]
    split
    · rename_i h16
      rw [if_pos h16] at this
      exact this
    · rename_i h16
      rw [if_neg h16] at this
      exact this
  · rw [if_neg c2] at h
    by_cases c3 : gcls g.code = 3
    · rw [if_pos c3] at h
      obtain ⟨n, ds, h1, h2, rfl⟩ := h
      have hd : (g :: (r ++ X)).dropWhile (inC [3]) = (g :: r).dropWhile (inC [3]) ++ X := hX.dropWhile (by simp) (g :: r)
      have := tokR_num (s := T) (e := e') (r := r ++ X) (n := n) (ds := ds) c3 (by rw [hd, hX.plf, hx _ (hb _)]; exact h1) (by rw [hd, hX.plf, hx _ (hb _)]; exact h2)
      rw [hd] at this
      split
      · rename_i h32
        rw [if_pos h32] at this
        exact this
      · rename_i h32
        rw [if_neg h32] at this
        exact this
    · rw [if_neg c3] at h
      by_cases c5 : gcls g.code = 5
      · rw [if_pos c5] at h
        have := tokR_sign (s := T) (e := e') (r := r ++ X) c5
        have hs : signS (gfold g.code) (r ++ X) = (signS (gfold g.code) r).app X := by
          unfold signS
          split
          · rfl
          · split
            · rfl
            · split
              · cases r with
                | nil =>
                  rcases hX with ⟨rfl, rfl⟩ | ⟨X', rfl⟩
                  · rfl
                  · rfl
                | cons x r =>
                  simp only [List.cons_append]
                  split <;> rfl
              · rfl
        rw [hs] at this
        rw [h]
        exact this
      · rw [if_neg c5] at h
        rw [h]
        exact tokR_other c2 c3 c5
end Lm
end Go.Proofs.YtnodfclgkalbfabDoor

namespace Go.Proofs.YtnodfclgkalbfabDoor
namespace Lm
open Go Go.RowKit
theorem gget (S : ByteArray) (i : Nat) (h : i < S.size) : S[i]'h = S.get! i := by
  cases S with
  | mk d => exact (getElem!_pos d i h).symm
theorem Ext.extract {t T : ByteArray} (h : Ext t T) {a b : Nat} (hb : b ≤ t.size) : T.extract a b = t.extract a b := by
  have hs := h.size
  apply ByteArray.ext
  rw [ByteArray.data_extract, ByteArray.data_extract]
  apply Array.ext_getElem?
  intro i
  rw [Array.getElem?_extract, Array.getElem?_extract]
  have e1 : T.data.size = T.size := rfl
  have e2 : t.data.size = t.size := rfl
  by_cases hi : i < b - a
  · rw [if_pos (by omega), if_pos (by omega)]
    have hlow := h.low (a + i) (by omega)
    have g1 : T.data[a + i]? = some (T.get! (a + i)) := by
      rw [Array.getElem?_eq_getElem (show a + i < T.data.size by omega)]
      congr 1
      exact gget T (a + i) (by omega)
    have g2 : t.data[a + i]? = some (t.get! (a + i)) := by
      rw [Array.getElem?_eq_getElem (show a + i < t.data.size by omega)]
      congr 1
      exact gget t (a + i) (by omega)
    rw [g1, g2, hlow]
  · rw [if_neg (by omega), if_neg (by omega)]
theorem Snd.ext {t T : ByteArray} {p e : Pl} {gs : List Gl} (hE : Ext t T) (h : Snd t p gs e) (hp : p.b ≤ t.size) : ∃ X e', Behind X e e' ∧ Snd T p (gs ++ X) e' := by
  induction h with
  | stop p h =>
    by_cases hlt : p.b < t.size
    · rcases h with h | h
      · omega
      · exact ⟨[], p, .inl ⟨rfl, rfl⟩, .stop p (.inr ⟨Nat.lt_trans hlt hE.size, by rw [hE.dec hlt]; exact h.2⟩)⟩
    · have hpe : p.b = t.size := by omega
      have hd : Utf8.decode T p.b = (10, 1) := by rw [hpe]; exact hE.nlDec
      obtain ⟨gs3, e3, h3⟩ := snd_is T (T.size - (p.past 10 1).b) (p.past 10 1) (Nat.le_refl _)
      refine ⟨⟨10, p⟩ :: gs3, e3, .inr ⟨gs3, rfl⟩, ?_⟩
      have := Snd.go (s := T) p gs3 e3 (by have hz := hE.size; show p.b < T.size; rw [hpe]; exact hz) (by rw [hd]; intro hc; injection hc with q _; omega) (by rw [hd]; exact h3)
      rw [hd] at this
      exact this
  | go p gs e h1 h2 hr ih =>
    have hl := dec_le t p.b h1
    obtain ⟨X, e', hX, hS⟩ := ih (by simp only [Pl.past]; omega)
    refine ⟨X, e', hX, ?_⟩
    have := Snd.go p (gs ++ X) e' (Nat.lt_trans h1 hE.size) (by rw [hE.dec h1]; exact h2) (by rw [hE.dec h1]; exact hS)
    rw [hE.dec h1] at this
    exact this
theorem skp_mem {x : Gl} : ∀ (c : Bool) (r : List Gl), x ∈ skp c r → x ∈ r
  | c, [], h => by cases c <;> exact h
  | true, y :: r, h => by
    rw [skp] at h
    exact List.mem_cons_of_mem _ (skp_mem _ r h)
  | false, y :: r, h => by
    rw [skp] at h
    by_cases h6 : gcls y.code = 6
    · rw [if_pos h6] at h
      exact List.mem_cons_of_mem _ (skp_mem _ r h)
    · rw [if_neg h6] at h
      by_cases h1 : gcls y.code = 1
      · rw [if_pos h1] at h
        exact List.mem_cons_of_mem _ (skp_mem _ r h)
      · rw [if_neg h1] at h
        exact h
theorem dw_mem {x : Gl} {p : Gl → Bool} {l : List Gl} (h : x ∈ l.dropWhile p) : x ∈ l := (List.dropWhile_sublist p).subset h
theorem TokR.mem {s : ByteArray} {e : Pl} {g : Gl} {r : List Gl} {kind : Int} {text : ByteArray} {rest : List Gl} (h : TokR s e g r (.ok kind text rest)) {x : Gl} (hx : x ∈ rest) : x ∈ g :: r := by
  unfold TokR at h
  split at h
  · split at h
    · cases h
    · injection h with _ _ e3
      rw [e3] at hx
      exact dw_mem hx
  · split at h
    · obtain ⟨n, ds, _, _, h⟩ := h
      split at h
      · cases h
      · injection h with _ _ e3
        rw [e3] at hx
        exact dw_mem hx
    · split at h
      · unfold signS at h
        split at h
        · injection h with _ _ e3
          rw [e3] at hx
          exact List.mem_cons_of_mem _ hx
        · split at h
          · injection h with _ _ e3
            rw [e3] at hx
            exact List.mem_cons_of_mem _ hx
          · split at h
            · cases r with
              | nil => cases h
              | cons y r =>
                simp only at h
                split at h
                · injection h with _ _ e3
                  rw [e3] at hx
                  exact List.mem_cons_of_mem _ (List.mem_cons_of_mem _ hx)
                · cases h
            · injection h with _ _ e3
              rw [e3] at hx
              exact List.mem_cons_of_mem _ hx
      · cases h
theorem ScanR.ext {t T : ByteArray} {e e' : Pl} {X : List Gl} (hE : Ext t T) (hX : Behind X e e') (heb : e.b ≤ t.size) (hXe : e.b < t.size → X = []) {r : List Gl} {o : SO} (h : ScanR t e r o) (hm : ∀ x ∈ r, x.pl.b ≤ t.size) : ∀ k p, o = .bad k p → ScanR T e' (r ++ X) (.bad k p) := by
  induction h with
  | done r h hb => intro k p ho; cases ho
  | rune r h hb =>
    intro k p ho
    injection ho with h1 h2
    subst h1 h2
    have hx := hXe hb
    subst hx
    rcases hX with ⟨_, rfl⟩ | ⟨X', hX'⟩
    · rw [List.append_nil]
      exact ScanR.rune r h (Nat.lt_trans hb hE.size)
    · cases hX'
  | bad r g t' k h ht =>
    intro k' p ho
    injection ho with h1 h2
    subst h1 h2
    have hm' : ∀ x ∈ g :: t', x.pl.b ≤ t.size := fun x hx => hm x (skp_mem false r (by rw [h]; exact hx))
    have hpl : ∀ l : List Gl, (∀ x ∈ l, x ∈ g :: t') → (plf l e).b ≤ t.size := by
      intro l hl
      cases l with
      | nil => exact heb
      | cons y l => exact hm' y (hl y List.mem_cons_self)
    have := TokR.app hX (T := T) (fun r' hr' => hE.extract hr') (fun cs => hpl _ (fun x hx => dw_mem hx)) ht
    exact ScanR.bad (r ++ X) g (t' ++ X) k (skp_app false r t' h) this
  | tok r g t' kind text rest o h ht hr ih =>
    intro k p ho
    cases o with
    | ok l => cases ho
    | bad k0 p0 =>
      injection ho with h1 h2
      subst h1 h2
      have hm' : ∀ x ∈ g :: t', x.pl.b ≤ t.size := fun x hx => hm x (skp_mem false r (by rw [h]; exact hx))
      have hpl : ∀ l : List Gl, (∀ x ∈ l, x ∈ g :: t') → (plf l e).b ≤ t.size := by
        intro l hl
        cases l with
        | nil => exact heb
        | cons y l => exact hm' y (hl y List.mem_cons_self)
      have h2 := TokR.app hX (T := T) (fun r' hr' => hE.extract hr') (fun cs => hpl _ (fun x hx => dw_mem hx)) ht
      have h3 := ih (fun x hx => hm' x (ht.mem hx)) k0 p0 rfl
      exact ScanR.tok (r ++ X) g (t' ++ X) kind text (rest ++ X) (.bad k0 p0) (skp_app false r t' h) h2 h3
theorem Snd.inside {t : ByteArray} {p e : Pl} {gs : List Gl} (h : Snd t p gs e) : ∀ x ∈ gs, x.pl.b ≤ t.size := by
  induction h with
  | stop p h => intro x hx; cases hx
  | go p gs e h1 h2 hr ih =>
    intro x hx
    rcases List.mem_cons.1 hx with rfl | hx
    · exact Nat.le_of_lt h1
    · exact ih x hx
theorem Behind.none {t T : ByteArray} {p e e' : Pl} {gs X : List Gl} (hE : Ext t T) (h : Snd t p gs e) (hX : Behind X e e') (hS : Snd T p (gs ++ X) e') (heb : e.b < t.size) : X = [] := by
  induction h with
  | stop p h =>
    rcases hX with ⟨rfl, _⟩ | ⟨X', rfl⟩
    · rfl
    · exfalso
      obtain ⟨_, _, _, h4, _⟩ := hS.tail
      rcases h with h | h
      · omega
      · exact h4 (by rw [hE.dec heb]; exact h.2)
  | go p gs e h1 h2 hr ih =>
    obtain ⟨_, _, _, _, h5, _⟩ := Snd.tail hS
    rw [hE.dec h1] at h5
    exact ih hX h5 heb
end Lm
end Go.Proofs.YtnodfclgkalbfabDoor

namespace Go.Proofs.YtnodfclgkalbfabDoor
namespace Lm
open Go Go.RowKit
def SO.k : SO → Int
  | .bad k _ => k
  | .ok _ => 0
def SO.p : SO → Pl
  | .bad _ p => p
  | .ok _ => plz
theorem ScanO.kp {w w' : World} {r : Ending} {o : SO} (h : ScanO w w' r o) : ∃ v, r = .returned (.tuple #[v, .int .i64 o.k, o.p.v]) := by
  cases o with
  | bad k p => exact ⟨_, h⟩
  | ok l =>
    obtain ⟨v, h4, _⟩ := h
    exact ⟨v, h4⟩
theorem ext_app (t m : ByteArray) : Ext t (t ++ ⟨#[10]⟩ ++ m) := by
  have hd : (t ++ ⟨#[10]⟩ ++ m).data.toList = t.data.toList ++ [10] ++ m.data.toList := by simp
  have hsz : (t ++ ⟨#[10]⟩ ++ m).size = t.size + 1 + m.size := by
    rw [ByteArray.size_append, ByteArray.size_append]; rfl
  have hget : ∀ (s : ByteArray) (i : Nat) (h : i < s.size), s.data.toList[i]? = some (s.get! i) := by
    intro s i h
    rw [Array.getElem?_toList, Array.getElem?_eq_getElem (show i < s.data.size from h)]
    congr 1
    exact gget s i h
  refine ⟨by omega, fun i hi => ?_, ?_⟩
  · have h1 := hget _ i (show i < (t ++ ⟨#[10]⟩ ++ m).size by omega)
    have h2 := hget t i hi
    rw [hd, List.append_assoc, List.getElem?_append_left (by simpa using hi), h2] at h1
    exact (Option.some.inj h1).symm
  · have h1 := hget _ t.size (show t.size < (t ++ ⟨#[10]⟩ ++ m).size by omega)
    rw [hd, List.append_assoc, List.getElem?_append_right (by simp)] at h1
    simp at h1
    rw [← h1]
    rfl
theorem first_scan {t T : ByteArray} (hE : Ext t T) {gs gs' : List Gl} {e e' : Pl} {o o' : SO} (h1 : Snd t pl0 gs e) (h2 : ScanR t e gs o) (h1' : Snd T pl0 gs' e') (h2' : ScanR T e' gs' o') : o.k = 0 ∨ (o'.k = o.k ∧ o'.p = o.p) := by
  cases o with
  | ok l => exact .inl rfl
  | bad k p =>
    obtain ⟨X, e2, hX, hS⟩ := h1.ext hE (Nat.zero_le _)
    obtain ⟨rfl, rfl⟩ := h1'.one hS
    have hends := h1.ends pl0_ok (Nat.zero_le _)
    have := h2.ext hE hX hends.2.2.1 (fun hlt => Behind.none hE h1 hX hS hlt) h1.inside k p rfl
    rw [h2'.one this]
    exact .inr ⟨rfl, rfl⟩
theorem first_glyphs {t T : ByteArray} (hE : Ext t T) (hs : T.size ≤ 4096) {gs gs' : List Gl} {e e' : Pl} (h1 : Snd t pl0 gs e) (h1' : Snd T pl0 gs' e') : (outG t gs e).1 = 0 ∨ ((outG T gs' e').1 = (outG t gs e).1 ∧ (outG T gs' e').2.1 = (outG t gs e).2.1) := by
  have hz := hE.size
  by_cases hb : e.b < t.size
  · obtain ⟨X, e2, hX, hS⟩ := h1.ext hE (Nat.zero_le _)
    obtain ⟨rfl, rfl⟩ := h1'.one hS
    have hx := Behind.none hE h1 hX hS hb
    subst hx
    rcases hX with ⟨_, rfl⟩ | ⟨X', hX'⟩
    · rw [outG_bad (by omega) hb, outG_bad (by omega) (by omega)]
      exact .inr ⟨rfl, rfl⟩
    · cases hX'
  · rw [outG_ok (by omega) hb]
    exact .inl rfl
set_option maxRecDepth 20000 in
set_option maxHeartbeats 4000000 in
theorem glyphfirst_any (w : World) (hT : Tabs w) (t m : ByteArray) (b0 : t.size ≤ reachBytes) (b1 : m.size ≤ reachBytes) :
    Calls Tryd.prog 5 #[.string t, .string m] w fun r w' => r = .returned (.bool true) ∧ Below w.heap.size w w' := by
  simp only [reachBytes] at b0 b1
  have HT := hide hT
  clear hT
  by_cases hlong : 4096 < t.size + m.size + 1
  · have hl : (4096 : Int) < (t.size : Int) + (m.size : Int) + 1 := by omega
    go_enter Tryd.func5, Tryd.ntmps5
    go_wp2_with fail
    refine (gawake_any w HT.out).mono ?_
    rintro r w1 ⟨rfl, hb1⟩
    go_wp2
    go_ret
    exact ⟨rfl, hb1⟩
  · have hl : decide ((4096 : Int) < (t.size : Int) + (m.size : Int) + 1) = false := by simp; omega
    have hadd1 : ∀ w, (Op.stringOp .add t ⟨#[10]⟩).run Tryd.prog w = .ok (.string (t ++ ⟨#[10]⟩)) w := fun w => run_string_add_sum (P := Tryd.prog) w t ⟨#[10]⟩ (by show t.size + 1 ≤ _; omega)
    have hadd2 : ∀ w, (Op.stringOp .add (t ++ ⟨#[10]⟩) m).run Tryd.prog w = .ok (.string (t ++ ⟨#[10]⟩ ++ m)) w := fun w => run_string_add_sum (P := Tryd.prog) w _ m (by rw [ByteArray.size_append]; show t.size + 1 + m.size ≤ _; omega)
    have hE := ext_app t m
    have hTs : (t ++ ⟨#[10]⟩ ++ m).size ≤ 4096 := by rw [ByteArray.size_append, ByteArray.size_append]; show t.size + 1 + m.size ≤ _; omega
    generalize t ++ (⟨#[10]⟩ : ByteArray) = U at hadd1 hadd2 hE hTs
    generalize U ++ m = T at hadd2 hE hTs
    obtain ⟨gt, et, hQt⟩ := snd_is t t.size pl0 (by simp [pl0])
    obtain ⟨gT, eT, hQT⟩ := snd_is T T.size pl0 (by simp [pl0])
    have KG1 := fun (W : World) (h : Tabs W) => glyphs_u W t h gt et hQt
    have KG2 := fun (W : World) (h : Tabs W) => glyphs_u W T h gT eT hQT
    have hG := first_glyphs hE hTs hQt hQT
    generalize outG t gt et = og1 at KG1 hG
    generalize outG T gT eT = og2 at KG2 hG
    obtain ⟨k1, P1, l1⟩ := og1
    obtain ⟨k2, P2, l2⟩ := og2
    simp only at KG1 KG2 hG
    have HE := hide hE
    have HG := hide hG
    have HQt := hide hQt
    have HQT := hide hQT
    have hts : t.size ≤ 4096 := by omega
    clear hE hG hQt hQT
    go_enter Tryd.func5, Tryd.ntmps5
    go_wp2_with fail
    refine (gawake_any w HT.out).mono ?_
    rintro r w1 ⟨rfl, hb1⟩
    have HB1 := hide hb1
    clear hb1
    go_wp2_with fail
    refine (scan_short w1 t (HT.out.below HB1.out) hts).mono ?_
    rintro r w2 ⟨hb2, gs1, e1, o1, hs1, hr1, ho1⟩
    obtain ⟨v1, rfl⟩ := ho1.kp
    have HB2 := hide (HB1.out.trans (hb2.mono HB1.out.size))
    unfold Pl.v
    go_wp2_with fail
    have hA : PlB (w2.alloc (.cells #[.int .i64 o1.p.b, .int .i64 o1.p.g, .int .i64 o1.p.l, .int .i64 o1.p.c] 26)) w2.heap.size o1.p := heap_alloc_new w2 _
    have hbw3 : Below w.heap.size w (w2.alloc (.cells #[.int .i64 o1.p.b, .int .i64 o1.p.g, .int .i64 o1.p.l, .int .i64 o1.p.c] 26)) := HB2.out.alloc HB2.out.size _
    have hgw3 : Below w2.heap.size w2 (w2.alloc (.cells #[.int .i64 o1.p.b, .int .i64 o1.p.g, .int .i64 o1.p.l, .int .i64 o1.p.c] 26)) := (Below.refl _ _).alloc (Nat.le_refl _) _
    clear hgw3
    generalize w2.alloc (.cells #[.int .i64 o1.p.b, .int .i64 o1.p.g, .int .i64 o1.p.l, .int .i64 o1.p.c] 26) = w3 at hA hbw3  ⊢
    generalize w2.heap.size = aA at hA ⊢
    refine (scan_short w3 T (HT.out.below hbw3) hTs).mono ?_
    rintro r w4 ⟨hb4, gs2, e2, o2, hs2, hr2, ho2⟩
    obtain ⟨v2, rfl⟩ := ho2.kp
    have hS := first_scan HE.out hs1 hr1 hs2 hr2
    have HS := hide hS
    replace hA := hA.below hb4
    have HB4 := hide (hbw3.trans (hb4.mono hbw3.size))
    clear hs1 hr1 hs2 hr2 ho1 ho2 hb4 hb2 hbw3 hS
    unfold Pl.v
    go_wp2_with fail
    have hB : PlB (w4.alloc (.cells #[.int .i64 o2.p.b, .int .i64 o2.p.g, .int .i64 o2.p.l, .int .i64 o2.p.c] 26)) w4.heap.size o2.p := heap_alloc_new w4 _
    have hbw5 : Below w.heap.size w (w4.alloc (.cells #[.int .i64 o2.p.b, .int .i64 o2.p.g, .int .i64 o2.p.l, .int .i64 o2.p.c] 26)) := HB4.out.alloc HB4.out.size _
    have hgw5 : Below w4.heap.size w4 (w4.alloc (.cells #[.int .i64 o2.p.b, .int .i64 o2.p.g, .int .i64 o2.p.l, .int .i64 o2.p.c] 26)) := (Below.refl _ _).alloc (Nat.le_refl _) _
    replace hA := hA.below hgw5
    clear hgw5
    generalize w4.alloc (.cells #[.int .i64 o2.p.b, .int .i64 o2.p.g, .int .i64 o2.p.l, .int .i64 o2.p.c] 26) = w5 at hB hbw5 hA ⊢
    generalize w4.heap.size = aB at hB ⊢
    refine (KG1 w5 (HT.out.below hbw5)).mono ?_
    rintro r w6 ⟨hb6, v3, rfl, _⟩
    replace hA := hA.below hb6
    replace hB := hB.below hb6
    have HB6 := hide (hbw5.trans (hb6.mono hbw5.size))
    clear hb6 hbw5
    unfold Pl.v
    go_wp2_with fail
    have hC : PlB (w6.alloc (.cells #[.int .i64 P1.b, .int .i64 P1.g, .int .i64 P1.l, .int .i64 P1.c] 26)) w6.heap.size P1 := heap_alloc_new w6 _
    have hbw7 : Below w.heap.size w (w6.alloc (.cells #[.int .i64 P1.b, .int .i64 P1.g, .int .i64 P1.l, .int .i64 P1.c] 26)) := HB6.out.alloc HB6.out.size _
    have hgw7 : Below w6.heap.size w6 (w6.alloc (.cells #[.int .i64 P1.b, .int .i64 P1.g, .int .i64 P1.l, .int .i64 P1.c] 26)) := (Below.refl _ _).alloc (Nat.le_refl _) _
    replace hA := hA.below hgw7
    replace hB := hB.below hgw7
    clear hgw7
    generalize w6.alloc (.cells #[.int .i64 P1.b, .int .i64 P1.g, .int .i64 P1.l, .int .i64 P1.c] 26) = w7 at hC hbw7 hA hB ⊢
    generalize w6.heap.size = aC at hC ⊢
    refine (KG2 w7 (HT.out.below hbw7)).mono ?_
    rintro r w8 ⟨hb8, v4, rfl, _⟩
    replace hA := hA.below hb8
    replace hB := hB.below hb8
    replace hC := hC.below hb8
    have hBx := hbw7.trans (hb8.mono hbw7.size)
    clear hb8 hbw7 KG1 KG2 hadd1 hadd2
    generalize o1.k = x1 at HS ⊢
    generalize o2.k = x2 at HS ⊢
    generalize o1.p = p1 at HS hA ⊢
    generalize o2.p = p2 at HS hB ⊢
    obtain ⟨zA, a0, a1, a2, a3⟩ := hA.cells
    obtain ⟨zB, q0, q1, q2, q3⟩ := hB.cells
    obtain ⟨zC, c0, c1, c2, c3⟩ := hC.cells
    unfold Pl.v
    have hD : PlB (w8.alloc (.cells #[.int .i64 P2.b, .int .i64 P2.g, .int .i64 P2.l, .int .i64 P2.c] 26)) w8.heap.size P2 := heap_alloc_new w8 _
    have hg : Below w8.heap.size w8 (w8.alloc (.cells #[.int .i64 P2.b, .int .i64 P2.g, .int .i64 P2.l, .int .i64 P2.c] 26)) := (Below.refl _ _).alloc (Nat.le_refl _) _
    replace hBx := hBx.trans (hg.mono hBx.size)
    replace hC := hC.below hg
    clear hg
    have hS' : x1 = 0 ∨ (x1 ≠ 0 ∧ x2 = x1 ∧ p2 = p1) := by
      by_cases hx : x1 = 0
      · exact .inl hx
      · rcases HS.out with h | h
        · exact absurd h hx
        · exact .inr ⟨hx, h⟩
    have hG' : k1 = 0 ∨ (k1 ≠ 0 ∧ k2 = k1 ∧ P2 = P1) := by
      by_cases hx : k1 = 0
      · exact .inl hx
      · rcases HG.out with h | h
        · exact absurd h hx
        · exact .inr ⟨hx, h⟩
    clear HS HG hl hlong b0 b1 hTs hts HB1 HB2 HB4 HB6 HE HQt HQT HT
    rcases hS' with rfl | ⟨hx, hx2, hxp⟩
    · rcases hG' with rfl | ⟨hk, hk2, hkp⟩
      · clear hA hB hC hD a0 a1 a2 a3 q0 q1 q2 q3 c0 c1 c2 c3 zA zB zC
        go_wp2
        go_ret
        exact ⟨rfl, hBx⟩
      · have hk' : (k1 == 0) = false := beq_eq_false_iff_ne.2 hk
        have hk3 : (k2 == k1) = true := by rw [hk2]; simp
        subst hkp
        clear hk hk2
        clear hA hB a0 a1 a2 a3 q0 q1 q2 q3 zA zB
        go_wp2_with (go_at_call 12; refine (sameplace_eq _ P2).mono ?_; rintro r w9 ⟨rfl, hb9⟩)
        go_ret
        exact ⟨rfl, hBx.trans (hb9.mono hBx.size)⟩
    · have hx' : (x1 == 0) = false := beq_eq_false_iff_ne.2 hx
      have hx3 : (x2 == x1) = true := by rw [hx2]; simp
      subst hxp
      clear hx hx2
      rcases hG' with rfl | ⟨hk, hk2, hkp⟩
      · clear hC hD c0 c1 c2 c3 zC
        go_wp2_with (go_at_call 12; refine (sameplace_eq _ p2).mono ?_; rintro r w9 ⟨rfl, hb9⟩)
        go_ret
        exact ⟨rfl, hBx.trans (hb9.mono hBx.size)⟩
      · have hk' : (k1 == 0) = false := beq_eq_false_iff_ne.2 hk
        have hk3 : (k2 == k1) = true := by rw [hk2]; simp
        subst hkp
        clear hk hk2
        have HBX := hide hBx
        clear c0 c1 c2 c3 zC hBx
        go_wp2_with fail
        refine (sameplace_eq _ p2).mono ?_
        rintro r w9 ⟨rfl, hb9⟩
        have HB9 := hide (HBX.out.trans (hb9.mono HBX.out.size))
        obtain ⟨zC, c0, c1, c2, c3⟩ := (hC.below hb9).cells
        obtain ⟨zD, d0, d1, d2, d3⟩ := (hD.below hb9).cells
        clear hA hB hC hD a0 a1 a2 a3 q0 q1 q2 q3 zA zB hb9
        go_wp2_with fail
        refine (sameplace_eq _ P2).mono ?_
        rintro r w10 ⟨rfl, hb10⟩
        go_wp2
        go_ret
        exact ⟨rfl, HB9.out.trans (hb10.mono HB9.out.size)⟩
end Lm
end Go.Proofs.YtnodfclgkalbfabDoor

namespace Go.Proofs.YtnodfclgkalbfabDoor
namespace glyphFirstLaw
open Go.ChangeShapes Go.WideShapes Go.ChangeAt Go.RowKit
open Go.ChangeMaps (open_string shut_string)
theorem own : ownKnob Tryd.prog.godebug = none := by kernel_rfl
noncomputable def laidWorld (os : Os) : World :=
  let w0 := World.holding Tryd.prog os ⟨#[], #[], []⟩
  let put (h : Array Obj) (g : Nat) (cs : Array Value) : Array Obj := h.modify g fun
    | .cells _ t frozen => .cells cs t frozen
    | o => o
  let h1 := put w0.heap (Tryd.lays197_ren.g 3) (Lib.firstTab.map fun z => Value.int .u8 z).toArray
  let h2 := put h1 (Tryd.lays197_ren.g 4) ((List.range 16).flatMap fun i => [Value.int .u8 (Lib.accLo i), Value.int .u8 (Lib.accHi i)]).toArray
  { w0 with heap := h2 }
theorem laid_met (os : Os) : laidMet Tryd.prog Rows.glyphFirstRow.laid ((laidWorld os).forCall (fun _ _ => 0) ⟨#[], #[.string ⟨#[]⟩, .string ⟨#[]⟩], []⟩).memory :=
  laidMet_of_run' 8 (by kernel_rfl) (by kernel_rfl)
theorem tabs {W : World} (h : laidMet Tryd.prog Rows.glyphFirstRow.laid W) : Lm.Tabs W :=
  utf8Tabs_of_reads (ρ := Tryd.lays197_ren) { Tryd.lays197 with } ⟨by kernel_rfl, by kernel_rfl, by kernel_rfl, by kernel_rfl, by kernel_rfl, by kernel_rfl, by kernel_rfl⟩
    (Lib.laidMet.reads h (show ("unicode/utf8.first", Lib.firstData) ∈ Rows.glyphFirstRow.laid from by
      rw [show Lib.firstData = Rows.laid_unicode_utf8_first from by kernel_rfl]
      exact .tail _ (.head _)))
    (Lib.laidMet.reads h (show ("unicode/utf8.acceptRanges", Lib.acceptData) ∈ Rows.glyphFirstRow.laid from by
      rw [show Lib.acceptData = Rows.laid_unicode_utf8_acceptRanges from by kernel_rfl]
      exact .head _))
theorem reads (os : Os) {H : Type} (enc : TypeId × Value → H) : ∃ places, DataW.whole enc Tryd.prog ((laidWorld os).forCall (fun _ _ => 0) ⟨#[], #[.string ⟨#[]⟩, .string ⟨#[]⟩], []⟩).memory Tryd.f5.params.toList Rows.glyphFirstSpec.vars false (#[.string ⟨#[]⟩, .string ⟨#[]⟩] : Array Value).toList 8 = some ([.lit (.string []), .lit (.string [])], [], places) :=
  ⟨[], by kernel_rfl⟩
set_option linter.unusedVariables false in
set_option maxRecDepth 100000 in
theorem lifted (os : Os) (started : os.Started) (H : Type) (enc : TypeId × Value → H) (F : Stop.Interp) :
    ReturnsInHanded {} Tryd.checked os 5 .any ((OpenSpec.ofChange Rows.glyphFirstSpec).preRow enc Tryd.prog Tryd.f5 Rows.glyphFirstRow.domain false Rows.glyphFirstRow.laid) (((OpenSpec.ofChange Rows.glyphFirstSpec).at F).post enc Tryd.prog Tryd.f5 false true false false) := by
  obtain ⟨places, hx⟩ := reads os enc
  refine returnsInHanded_of_row (C := Tryd.checked) (s := (OpenSpec.ofChange Rows.glyphFirstSpec)) own started (by kernel_rfl) Tryd.func5
    (witness_row_at (enc := enc) (C := Tryd.checked) false (laidWorld os) #[.string ⟨#[]⟩, .string ⟨#[]⟩] rfl (by kernel_rfl) (by kernel_rfl) (by kernel_rfl)
      (OpenSpec.preRow_of_cond 8 hx (by kernel_rfl) (fun k hk => by cases hk) (by kernel_rfl) (laid_met os))) ?_
  intro W base args ds gs before hval0 hW hcnd0 hcond hsz0 hL hj2 hj3
  have hTabs : Lm.Tabs W := tabs hL
  have hval : ∀ (j : Nat) t v, Tryd.f5.params[j]? = some t → args[j]? = some v → Value.okWide Tryd.prog W .any base t v := hval0
  have hW' := hW
  obtain ⟨p, q, hA0, hV, rfl, hfz, hnd⟩ := hW
  have hA : DataW.TrodAll enc Tryd.prog W 0 (fun _ => true) true Tryd.f5.params.toList args.toList ds p := hA0
  have hsz : (DataW.weightsEach Tryd.prog (Tryd.f5.params.toList ++ Rows.glyphFirstSpec.plain.varTypes Tryd.prog) (ds ++ gs)).all (· ≤ reachBytes) = true := hsz0
  rw [Tryd.params5] at hA hval hsz
  obtain ⟨v0, vs0, d0, ds0, p0, q0, hargs, rfl, rfl, h0, r0⟩ := trodAll_cons hA
  obtain ⟨v1, vs1, d1, ds1, p1, q1, rfl, rfl, rfl, h1, r1⟩ := trodAll_cons r0
  obtain ⟨rfl, rfl, rfl⟩ := trodAll_nil r1
  obtain rfl : args = #[v0, v1] := by cases args; simp_all
  obtain ⟨rfl, rfl⟩ := trodVars_none hV
  obtain ⟨a0, rfl, rfl, rfl, w0⟩ := open_string Tryd.underlying9 (hval 0 9 v0 rfl rfl) h0
  obtain ⟨a1, rfl, rfl, rfl, w1⟩ := open_string Tryd.underlying9 (hval 1 9 v1 rfl rfl) h1
  clear hA0 hval0
  refine (Lm.glyphfirst_any W hTabs a0 a1 (by have h9 := sized_string hsz (j := 0) (t := 9) rfl rfl; simpa using h9) (by have h9 := sized_string hsz (j := 1) (t := 9) rfl rfl; simpa using h9)).mono fun e W' ⟨he, bel⟩ => ?_
  subst he
  exact ⟨_, rfl, _, _, _, [], _, [], hW', trodAll_mk1 (shut_bool Tryd.underlying4 _), (trodAll_cons_mk (shut_string Tryd.underlying9 w0) (trodAll_cons_mk (shut_string Tryd.underlying9 w1) trodAll_mk0)), rfl, bel.frame _, fun h => by cases h⟩
theorem said : Rows.GlyphFirstSaid :=
  OpenClaim.holds_of_cond 5 Tryd.f5 rfl rfl rfl rfl rfl rfl rfl ⟨rfl, rfl, rfl, rfl, rfl⟩ rfl rfl rfl rfl rfl (by kernel_rfl) Tryd.func5 (by kernel_rfl)
    (of_decide_eq_true (by kernel_rfl)) (by unfold Func.isWrapper; first | (rw [if_pos (by decide +kernel)]; kernel_rfl) | (rw [if_neg (by decide +kernel)]; exact ⟨rfl, rfl⟩))
    (fun os started H enc _ F => by rw [OpenClaim.pre_eq_preRow]; exact lifted os started H enc F)
theorem plain (f : FuncId) (fn : Func) (hf : Tryd.pinned.checked.prog.funcNamed "rafter/rafterlaw04.GlyphFirst" = some f) (hfn : Tryd.pinned.checked.prog.funcs[f]? = some fn) :
    false = Tryd.pinned.checked.prog.looks [] ∧ ∀ (j : Nat) t, fn.params[j]? = some t → Tryd.pinned.checked.prog.wantsStandIn t = false := by
  obtain rfl : f = 5 := Option.some.inj ((show Tryd.prog.funcNamed "rafter/rafterlaw04.GlyphFirst" = some 5 by kernel_rfl).symm.trans hf) |>.symm
  obtain rfl : fn = Tryd.f5 := (Option.some.inj (Tryd.func5.symm.trans hfn)).symm
  refine ⟨by kernel_rfl, fun j t ht => ?_⟩
  rw [Tryd.params5] at ht
  have hm := Array.mem_of_getElem? ht
  simp at hm
  obtain rfl := hm
  exact (show Tryd.prog.wantsStandIn 9 = false by kernel_rfl)
theorem card : Rows.GlyphFirstCardSaid :=
  Claim7.holds_tied_plain_at .later [] _ _ _ _ said (fun _ h => by cases h) (by kernel_rfl) (fun _ h => by cases h) glyphFirst_row_tie rfl ⟨rfl, rfl⟩ (by kernel_rfl) rfl plain (by kernel_rfl)
end glyphFirstLaw
theorem glyphFirst_card : Rows.GlyphFirstCardSaid := glyphFirstLaw.card
#print axioms glyphFirst_card
end Go.Proofs.YtnodfclgkalbfabDoor

