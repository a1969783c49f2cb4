/-
  The given statement on GlyphNames, for every input of bulk at most 1048576: the call answers true, and each argument reads behind it as it read before; and its card. Its condition: the two tables of unicode/utf8 are laid as the row lists them; the card ties that to the program's text. Beside it: Any text's codes, and what Scan answers by them. The document's Scan of any text. Name, the program's and the document's, of any text. GlyphSigns answers true, whatever text it is handed: the walk. The document's Join, of any tokens. GlyphNames answers true, whatever it is handed, as long as the texts are together short: the walk. A row of texts that is handed in: what it reads as.
-/
import Derived.Laws.Concat
import Derived.SizedLaws
import Derived.Test.YtgfglefgpgckiaaDoorRows
import Derived.SliceStrings
import Derived.OpenShut
import Derived.Test.YtgfglefgpgckiaaDoorCards
import Derived.Test.YtgfglefgpgckiaaDoorTie
import Derived.ProofKit
import Derived.ShutString
import Derived.ChangeOld
import Derived.Lib.SmallJoins
import Derived.Lib.LaidU8
import Derived.Lib.LaidIn
import Derived.Deep.DeepHandedRow
import Derived.JoinedCond
import Derived.Test.YtgfglefgpgckiaaDoorGLmLawZ2
namespace Go.Proofs.YtgfglefgpgckiaaDoor
namespace Lm
open Go Go.RowKit
theorem decN_cod {n b0 b1 b2 b3 : Nat} (h0 : b0 < 256) {c k : Nat} (h : Lib.decodeN n b0 b1 b2 b3 = (c, k)) (hv : (c, k) ≠ (65533, 1)) : Cod c := by
  unfold Lib.decodeN at h
  repeat' split at h
  all_goals try exact absurd h.symm hv
  all_goals (simp only [Prod.mk.injEq] at h; obtain ⟨rfl, rfl⟩ := h)
  all_goals (unfold Cod; omega)
theorem u8_of {u : UInt8} {n : Nat} (h : u.toNat = n) : u = n.toUInt8 := by
  subst h
  exact UInt8.toNat_inj.1 (by rw [Nat.toUInt8, UInt8.toNat_ofNat']; have := UInt8.toNat_lt u; omega)
theorem dec_bytes (s : ByteArray) (i : Nat) (h : i < s.size) (hv : Utf8.decode s i ≠ (65533, 1)) : Cod (Utf8.decode s i).1 ∧ (s.extract i (i + (Utf8.decode s i).2)).data.toList = encL (Utf8.decode s i).1 ∧ (Utf8.decode s i).2 = (encL (Utf8.decode s i).1).length := by
  have hl := dec_le s i h
  obtain ⟨c, k, e⟩ : ∃ c k, Utf8.decode s i = (c, k) := ⟨_, _, rfl⟩
  rw [e] at hv hl ⊢
  rw [Lib.decode_at] at e
  simp only at hl ⊢
  refine ⟨decN_cod (UInt8.toNat_lt _) e hv, ?_⟩
  rcases decN_back (UInt8.toNat_lt _) (UInt8.toNat_lt _) (UInt8.toNat_lt _) (UInt8.toNat_lt _) e hv with ⟨rfl, h1, h2⟩ | ⟨rfl, h1, h2, h3, h4⟩ | ⟨rfl, h1, h2, h3, h4, h5⟩ | ⟨rfl, h1, h2, h3, h4, h5, h6⟩
  · unfold encL
    rw [if_pos h2, ext_one s i h 0 (by omega), ext_nil, u8_of h1.symm]
    exact ⟨rfl, rfl⟩
  · unfold encL
    rw [if_neg (by omega), if_pos h2, ext_one s i h 1 (by omega), ext_one s (i + 1) (by omega) 0 (by omega), ext_nil, u8_of h3, u8_of h4]
    exact ⟨rfl, rfl⟩
  · unfold encL
    rw [if_neg (by omega), if_neg (by omega), if_pos h2, ext_one s i h 2 (by omega), ext_one s (i + 1) (by omega) 1 (by omega), ext_one s (i + 1 + 1) (by omega) 0 (by omega), ext_nil, u8_of h3, u8_of h4, u8_of h5]
    exact ⟨rfl, rfl⟩
  · unfold encL
    rw [if_neg (by omega), if_neg (by omega), if_neg (by omega), ext_one s i h 3 (by omega), ext_one s (i + 1) (by omega) 2 (by omega), ext_one s (i + 1 + 1) (by omega) 1 (by omega), ext_one s (i + 1 + 1 + 1) (by omega) 0 (by omega), ext_nil, u8_of h3, u8_of h4, u8_of h5, u8_of h6]
    exact ⟨rfl, rfl⟩
theorem snd_codes {s : ByteArray} {p e : Pl} {gs : List Gl} (h : Snd s p gs e) (he : s.size ≤ e.b) (hb : p.b ≤ s.size) : ∃ cs, gs = glf p cs ∧ e = adv p cs ∧ (∀ c ∈ cs, Cod c) ∧ (s.data.toList.drop p.b) = encs cs := by
  induction h with
  | stop p h =>
    refine ⟨[], rfl, rfl, by simp, ?_⟩
    rw [List.drop_eq_nil_of_le (by show s.data.toList.length ≤ p.b; exact he)]
    rfl
  | go p gs e h1 h2 hr ih =>
    have hd := dec_le s p.b h1
    obtain ⟨k1, k2, k3⟩ := dec_bytes s p.b h1 h2
    obtain ⟨cs, i1, i2, i3, i4⟩ := ih he (by simp only [Pl.past]; omega)
    rw [k3] at i1 i2
    refine ⟨(Utf8.decode s p.b).1 :: cs, by rw [i1]; rfl, by rw [i2]; rfl, ?_, ?_⟩
    · intro c hc
      rcases List.mem_cons.1 hc with rfl | hc
      · exact k1
      · exact i3 c hc
    · rw [encs, ← i4, ← k2, ByteArray.data_extract, Array.toList_extract, List.extract_eq_take_drop, show p.b + (Utf8.decode s p.b).2 - p.b = (Utf8.decode s p.b).2 from by omega]
      simp only [Pl.past]
      rw [← List.drop_drop, List.take_append_drop]
theorem scanR_end {s : ByteArray} {e : Pl} {gs : List Gl} {l : List Tk} (h : ScanR s e gs (.ok l)) : s.size ≤ e.b := by
  generalize ho : SO.ok l = o at h
  induction h generalizing l with
  | done r h hb => exact hb
  | rune r h hb => cases ho
  | bad r g t k h ht => cases ho
  | tok r g t kind text rest o h ht hr ih =>
    cases o with
    | bad k p => cases ho
    | ok l' => exact ih rfl
theorem tokR_bad {s : ByteArray} {e : Pl} {g : Gl} {r : List Gl} {k : Int} (h : TokR s e g r (.bad k)) : k = 42 ∨ k = 2 ∨ k = 41 := by
  unfold TokR at h
  split at h
  · split at h
    · injection h with h; exact .inl h
    · cases h
  · split at h
    · obtain ⟨n, ds, _, _, h⟩ := h
      split at h
      · injection h with h; exact .inr (.inl h)
      · cases h
    · split at h
      · unfold signS at h
        split at h
        · cases h
        · split at h
          · cases h
          · split at h
            · split at h
              · injection h with h; exact .inr (.inr h)
              · split at h
                · cases h
                · injection h with h; exact .inr (.inr h)
            · cases h
      · injection h with h; exact .inr (.inr h)
theorem scanR_bad {s : ByteArray} {e : Pl} {gs : List Gl} {k : Int} {p : Pl} (h : ScanR s e gs (.bad k p)) : k ≠ 0 := by
  generalize ho : SO.bad k p = o at h
  induction h with
  | done r h hb => cases ho
  | rune r h hb => injection ho with e1 _; omega
  | bad r g t k' h ht =>
    injection ho with e1 _
    subst e1
    rcases tokR_bad ht with h | h | h <;> omega
  | tok r g t kind text rest o h ht hr ih =>
    cases o with
    | bad k' p' => exact ih ho
    | ok l' => cases ho
end Lm
end Go.Proofs.YtgfglefgpgckiaaDoor

namespace Go.Proofs.YtgfglefgpgckiaaDoor
namespace Lm
open Go Go.RowKit
theorem drop_of_dropWhile {α : Type} (f : α → Bool) (l : List α) : ∃ j, j ≤ l.length ∧ l.dropWhile f = l.drop j := by
  induction l with
  | nil => exact ⟨0, Nat.le_refl _, rfl⟩
  | cons x l ih =>
    by_cases hx : f x = true
    · obtain ⟨j, h1, h2⟩ := ih
      exact ⟨j + 1, by simp; omega, by rw [List.dropWhile_cons_of_pos hx, h2]; rfl⟩
    · exact ⟨0, Nat.zero_le _, by rw [List.dropWhile_cons_of_neg hx]; rfl⟩
theorem skp_drop (c : Bool) (l : List Gl) : ∃ j, j ≤ l.length ∧ skp c l = l.drop j := by
  induction l generalizing c with
  | nil => exact ⟨0, Nat.le_refl _, by cases c <;> rfl⟩
  | cons x l ih =>
    cases c with
    | true =>
      obtain ⟨j, h1, h2⟩ := ih (decide (x.code ≠ 10))
      exact ⟨j + 1, by simp; omega, by rw [skp, h2]; rfl⟩
    | false =>
      by_cases h6 : gcls x.code = 6
      · obtain ⟨j, h1, h2⟩ := ih true
        exact ⟨j + 1, by simp; omega, by rw [skp, if_pos h6, h2]; rfl⟩
      · by_cases h1c : gcls x.code = 1
        · obtain ⟨j, h1, h2⟩ := ih false
          exact ⟨j + 1, by simp; omega, by rw [skp, if_neg h6, if_pos h1c, h2]; rfl⟩
        · exact ⟨0, Nat.zero_le _, by rw [skp, if_neg h6, if_neg h1c]; rfl⟩
theorem TokR.rest {s : ByteArray} {e : Pl} {g : Gl} {t : List Gl} {k : Int} {x : ByteArray} {r : List Gl} (h : TokR s e g t (.ok k x r)) : (∃ j, 1 ≤ j ∧ j ≤ (g :: t).length ∧ r = (g :: t).drop j) ∧ (k = 1 ∨ k = 2 ∨ k = 3) := by
  have key : ∀ ks : List Int, gcls g.code ∈ ks → ∃ j, 1 ≤ j ∧ j ≤ (g :: t).length ∧ (g :: t).dropWhile (inC ks) = (g :: t).drop j := by
    intro ks hk
    obtain ⟨j, h1, h2⟩ := drop_of_dropWhile (inC ks) t
    exact ⟨j + 1, by omega, by simp; omega, by rw [List.dropWhile_cons_of_pos (by simp [inC, hk]), h2]; rfl⟩
  unfold TokR at h
  split at h
  · rename_i h2
    split at h
    · cases h
    · injection h with e1 e2 e3
      subst e1 e3
      exact ⟨key _ (by rw [h2]; simp), .inl rfl⟩
  · split at h
    · rename_i h3
      obtain ⟨n, ds, _, _, h⟩ := h
      split at h
      · cases h
      · injection h with e1 e2 e3
        subst e1 e3
        exact ⟨key _ (by rw [h3]; simp), .inr (.inl rfl)⟩
    · split at h
      · unfold signS at h
        split at h
        · injection h with e1 e2 e3
          subst e1 e3
          exact ⟨⟨1, by omega, by simp, rfl⟩, .inr (.inr rfl)⟩
        · split at h
          · injection h with e1 e2 e3
            subst e1 e3
            exact ⟨⟨1, by omega, by simp, rfl⟩, .inr (.inr rfl)⟩
          · split at h
            · cases t with
              | nil => cases h
              | cons y t =>
                simp only at h
                split at h
                · injection h with e1 e2 e3
                  subst e1 e3
                  exact ⟨⟨2, by omega, by simp, rfl⟩, .inr (.inr rfl)⟩
                · cases h
            · injection h with e1 e2 e3
              subst e1 e3
              exact ⟨⟨1, by omega, by simp, rfl⟩, .inr (.inr rfl)⟩
      · cases h
theorem keep_tok {w3 W w5 : World} {B n : Nat} {T t : TypeId} {v : Value} {xs : List Value} {cs : Array Value} (hown : w3.ownsRow B T 6 v n xs) (hg : W.grownBy w5 v.ownBlock) (hW : W.heap[w3.heap.size]? = some (.cells cs t (0, 0))) : w5.cell? ⟨w3.heap.size, 0, none⟩ = cs[0]? := by
  have hblk : w5.heap[w3.heap.size]? = some (.cells cs t (0, 0)) := by
    rw [hg.block w3.heap.size (lt_of_heap hW) (by
      obtain ⟨hl, ⟨h1, _⟩ | ⟨b, cap, cur, h1, hb, hh, _⟩⟩ := hown
      · rw [h1]; simp [Value.ownBlock]
      · rw [h1]
        have := lt_of_heap hh
        simp only [Value.ownBlock, ne_eq, Option.some.injEq]
        omega)]
    exact hW
  exact cell_of_row w5 w3.heap.size 0 _ _ _ hblk
theorem sign_ascii {c : Nat} (h : gcls c = 5) (hc : c ≠ 8788 ∧ c ≠ 8800) : ∃ d : Nat, gfold c = (d : Int) ∧ d < 128 := by
  have hg := gsign_of h
  have hf := gsign_cases hc.1 hc.2
  unfold gsign at hg
  exact ⟨(gfold c).toNat, by omega, by omega⟩
theorem rtoken_any (w : World) (q : Nat) (s : ByteArray) (p e : Pl) (g : Gl) (gs : List Gl) (h : Rdr w q s p) (hm : s.size ≤ 4096) (hQ : Snd s p (g :: gs) e) (hok : p.ok) (hpb : p.b ≤ s.size) :
    Calls Tryd.prog 26 #[.pointer (some ⟨q, 0, none⟩)] w fun r w' => Tq w w' q ∧ ∃ o, TokR s e g gs o ∧ RtO w' q s e p r o := by
  by_cases c2 : gcls g.code = 2
  · exact rtoken_name w q s p e g gs h hm hQ hok hpb c2
  by_cases c3 : gcls g.code = 3
  · exact rtoken_num w q s p e g gs h hm hQ hok hpb c3
  by_cases c5 : gcls g.code = 5
  · have hT := tokR_sign (s := s) (e := e) (r := gs) c5
    by_cases h1 : g.code = 8788
    · refine (rtoken_twoa w q s p e g gs h hm hQ hok c5 h1).mono fun r w' hr => ⟨hr.1, _, hT, ?_⟩
      rw [show signS (gfold g.code) gs = .ok 3 (strOfNums [58, 61]) gs from by rw [h1]; rfl]
      exact hr.2
    by_cases h2 : g.code = 8800
    · refine (rtoken_twob w q s p e g gs h hm hQ hok c5 h2).mono fun r w' hr => ⟨hr.1, _, hT, ?_⟩
      rw [show signS (gfold g.code) gs = .ok 3 (strOfNums [33, 61]) gs from by rw [h2]; rfl]
      exact hr.2
    have hS2 := hQ.tail.2.2.2.2.1
    by_cases h3 : g.code = 58 ∨ g.code = 33
    · by_cases h61 : ∃ g2 gs2, gs = g2 :: gs2 ∧ g2.code = 61
      · obtain ⟨g2, gs2, hgs, h61⟩ := h61
        rcases h3 with h3 | h3
        · refine (rtoken_paira w q s p e g gs h hm hQ hok c5 h3 g2 gs2 hgs h61).mono fun r w' hr => ⟨hr.1, _, hT, ?_⟩
          rw [show signS (gfold g.code) gs = .ok 3 (strOfNums [58, 61]) gs2 from by rw [h3, hgs]; show (if g2.code = 61 then _ else _) = _; rw [if_pos h61]; rfl]
          exact hr.2
        · refine (rtoken_pairb w q s p e g gs h hm hQ hok c5 h3 g2 gs2 hgs h61).mono fun r w' hr => ⟨hr.1, _, hT, ?_⟩
          rw [show signS (gfold g.code) gs = .ok 3 (strOfNums [33, 61]) gs2 from by rw [h3, hgs]; show (if g2.code = 61 then _ else _) = _; rw [if_pos h61]; rfl]
          exact hr.2
      · have hlk : lookS s (p.past (Utf8.decode s p.b).1 (Utf8.decode s p.b).2) ≠ 61 := by
          cases gs with
          | nil =>
            have hle := look_end hS2
            by_cases hbe : s.size ≤ e.b
            · rw [hle.2.1 hbe]; omega
            · rw [hle.2.2 (by omega)]; omega
          | cons g2 gs2 =>
            rw [look_cons hS2]
            intro hc
            exact h61 ⟨g2, gs2, rfl, by omega⟩
        have hbad : signS (gfold g.code) gs = .bad 41 := by
          cases gs with
          | nil => rcases h3 with h3 | h3 <;> (rw [h3]; rfl)
          | cons g2 gs2 =>
            have hne : ¬ g2.code = 61 := fun hc => h61 ⟨g2, gs2, rfl, hc⟩
            rcases h3 with h3 | h3
            · rw [h3]; show (if g2.code = 61 then _ else _) = _; rw [if_neg hne]
            · rw [h3]; show (if g2.code = 61 then _ else _) = _; rw [if_neg hne]
        rcases h3 with h3 | h3
        · refine (rtoken_lonea w q s p e g gs h hm hQ hok c5 h3 hlk).mono fun r w' hr => ⟨hr.1, _, hT, ?_⟩
          rw [hbad]; exact hr.2
        · refine (rtoken_loneb w q s p e g gs h hm hQ hok c5 h3 hlk).mono fun r w' hr => ⟨hr.1, _, hT, ?_⟩
          rw [hbad]; exact hr.2
    · obtain ⟨d, hd, hd1⟩ := sign_ascii c5 ⟨h1, h2⟩
      refine (rtoken_one w q s p e g gs h hm hQ hok c5 ⟨h1, h2, by omega, by omega⟩ d hd hd1).mono fun r w' hr => ⟨hr.1, _, hT, ?_⟩
      have hf := gsign_cases h1 h2
      rw [show signS (gfold g.code) gs = .ok 3 (strOfNums [(d : Int)]) gs from by unfold signS; rw [if_neg hf.1, if_neg hf.2, if_neg (by rw [gfold_58, gfold_33]; exact h3), hd]]
      exact hr.2
  · exact (rtoken_other w q s p e g gs h hm hQ c2 c3 c5).mono fun r w' hr => ⟨hr.1, _, tokR_other c2 c3 c5, hr.2⟩
set_option maxRecDepth 20000 in
set_option maxHeartbeats 1000000 in
theorem rscan_long (w : World) (s : ByteArray) (hs : 4096 < s.size) :
    Calls Tryd.prog 10 #[.string s] w fun r w' => Below w.heap.size w w' ∧ r = .returned (.tuple #[.slice none 0 0, .int .i64 2, plz.v]) := by
  have hs' : (4096 : Int) < (s.size : Int) := by omega
  go_enter Tryd.func10, Tryd.ntmps10
  go_wp2
  refine bodyPost_ret (v := _) (by simp [results, Tryd.results10, go_sem]; try rfl) rfl ⟨?_, rfl⟩
  (repeat' (first | (with_reducible exact Below.refl _ _) | (with_reducible assumption) | (with_reducible refine gdrewN ?_ _) | (with_reducible refine Below.alloc ?_ ?_ _) | (with_reducible refine Below.drew ?_) | (with_reducible refine Below.setCell ?_ ?_ _) | go_size))
set_option maxRecDepth 20000 in
set_option maxHeartbeats 4000000 in
theorem rscan_short (w : World) (s : ByteArray) (hs : s.size ≤ 4096) (gs : List Gl) (e : Pl) (hQ : Snd s pl0 gs e) :
    Calls Tryd.prog 10 #[.string s] w fun r w' => Below w.heap.size w w' ∧ ∃ o, ScanR s e gs o ∧ ScanO w w' r o := by
  have hs' : decide ((4096 : Int) < (s.size : Int)) = false := by simp; omega
  have HQ := hide hQ
  clear hQ
  go_enter Tryd.func10, Tryd.ntmps10
  go_wp2_with fail
  refine (begin_any _ s).mono ?_
  rintro r w1 ⟨q, hqw, rfl, hR, hb1⟩
  have hsz0 : (w.alloc (.cells #[.int .i64 0, .int .i64 0, .int .i64 0, .int .i64 0] 25)).heap.size = w.heap.size + 1 := World.size_alloc w _
  have hbq := hb1
  rw [hsz0] at hqw hbq
  have hw1 : w.heap.size + 1 ≤ w1.heap.size := by have := hbq.size; rwa [hsz0] at this
  have hS0 : RgS w w1 q w.heap.size w1.heap.size s pl0 35 (.slice none 0 0) 0 [] :=
    ⟨hR, World.ownsRow_nil _ _ _ _, (hbq.block w.heap.size (by omega)).trans (heap_alloc_new w _), ((Below.refl _ _).alloc (Nat.le_refl _) _).trans (hbq.mono (by omega)), Nat.le_refl _, Nat.le_refl _, by omega, by omega, by omega, lt_of_heap hR⟩
  have HS0 := hide hS0
  clear hS0 hR hbq hb1 hsz0 hqw hw1
  generalize w1.heap.size = B at HS0
  generalize hf : w.heap.size = f at *
  replace hf : w.heap.size ≤ f := by omega
  go_wp2
  obtain ⟨i0, hi0, hz0, hz1, hz2⟩ := info_is infoT
  have hfq := HS0.out.fq
  go_loopw [5] (fun tv wr => ∃ (ts : List Tk) (p : Pl) (ta : Option Addr) (tc : Nat) (gs' : List Gl), tv = .slice ta ts.length tc ∧ RgS w wr q f B s p 35 (.slice ta ts.length tc) ts.length (tflat ts) ∧ p.ok ∧ p.b ≤ s.size ∧ ts.length ≤ p.b ∧ Snd s p gs' e ∧ ∀ o, ScanR s e gs' o → ScanR s e gs (o.pres ts)) (fun _ wr => s.size - rpos wr q)
  case atStart => exact ⟨[], pl0, none, 0, gs, rfl, HS0.out, pl0_ok, Nat.zero_le _, Nat.zero_le _, HQ.out, fun o h => by rw [pres_nil]; exact h⟩
  case round =>
    clear HS0
    obtain ⟨ts, p, ta, tc, gs', rfl, hS, hp, hpb, htl, hsn, hpre⟩ := hrel
    have HS := hide hS
    have HP := hide hp
    have HE := hide hpre
    have HSN := hide hsn
    have IP := hide hS.rdr.pos
    clear hS hp hpre hsn
    go_wp2_with fail
    refine (spaces_any wr q s p gs' e HS.out.rdr (by omega) HSN.out HP.out hpb).mono ?_
    rintro r w2 ⟨ht2, p2, hsn2, hok2, hpb2, hR2, hr⟩
    have hp12 : p.b ≤ p2.b := by
      obtain ⟨j, hj, hjd⟩ := skp_drop false gs'
      have hdd := HSN.out.drop HP.out hpb j hj
      rw [← hjd, hsn2.plf] at hdd
      have := hdd.2.2.1
      omega
    have HS2 := hide (HS.out.tq ht2 hR2)
    have HSN2 := hide hsn2
    have HOK2 := hide hok2
    clear ht2 hR2 HS hok2
    rcases hr with ⟨hk0, hbe, rfl⟩ | ⟨hgo, rfl⟩
    · rw [hk0] at hsn2
      have hpe : p2 = e := (look_end hsn2).1
      have HPE := hide hpe
      have HK0 := hide hk0
      clear hpe hsn2 hk0
      obtain ⟨hq, k0, k1, k2, k3, k4, n1, n2, n3, n4⟩ := HS2.out.rdr.cells
      obtain ⟨hff, y0, y1, y2, y3⟩ := HS2.out.zer.cells
      have f0 := frozen_of_row w2 f 0 _ _ HS2.out.zer
      have f1 := frozen_of_row w2 f 1 _ _ HS2.out.zer
      have f2 := frozen_of_row w2 f 2 _ _ HS2.out.zer
      have f3 := frozen_of_row w2 f 3 _ _ HS2.out.zer
      clear n1 n2 n3 n4
      go_wp2_with fail
      go_region
      go_wp2
      have hX : PlB (((((w2.setCell ⟨f, 0, none⟩ (.int .i64 p2.b)).setCell ⟨f, 1, none⟩ (.int .i64 p2.g)).setCell ⟨f, 2, none⟩ (.int .i64 p2.l)).setCell ⟨f, 3, none⟩ (.int .i64 p2.c)).drew) f p2 := (plB_fill HS2.out.zer).below ((Below.refl _ _).drew)
      have hXB : Below w.heap.size w (((((w2.setCell ⟨f, 0, none⟩ (.int .i64 p2.b)).setCell ⟨f, 1, none⟩ (.int .i64 p2.g)).setCell ⟨f, 2, none⟩ (.int .i64 p2.l)).setCell ⟨f, 3, none⟩ (.int .i64 p2.c)).drew) := (fill_below HS2.out.bel hf _ _ _ _).drew
      generalize ((((w2.setCell ⟨f, 0, none⟩ (.int .i64 p2.b)).setCell ⟨f, 1, none⟩ (.int .i64 p2.g)).setCell ⟨f, 2, none⟩ (.int .i64 p2.l)).setCell ⟨f, 3, none⟩ (.int .i64 p2.c)).drew = wf at hX hXB ⊢
      obtain ⟨_, x0, x1, x2, x3⟩ := hX.cells
      refine bodyPost_ret (v := _) (by simp [results, Tryd.results10, go_sem, x0, x1, x2, x3]; try rfl) rfl ⟨hXB, .bad 40 e, ?_, by rw [← HPE.out]; rfl⟩
      have := HE.out _ (ScanR.rune gs' HK0.out hbe)
      exact this
    · cases hgs : skp false gs' with
      | nil =>
        rw [hgs] at hgo HSN2
        have hbe : s.size ≤ e.b := by
          rcases hgo with h | h
          · exact absurd rfl h
          · exact h
        have HGS := hide hgs
        have hpe : p2 = e := (look_end HSN2.out).1
        have HPE := hide hpe
        clear hgs hgo hsn2 hpe
        go_wp2_with fail
        refine (rtoken_end w2 q s p2 e HS2.out.rdr hs HSN2.out hbe).mono ?_
        rintro r w3 ⟨ht3, rfl, hR3⟩
        have HS3 := hide (HS2.out.tq ht3 hR3)
        clear ht3 hR3 HS2
        unfold Tk.v Pl.v
        simp only
        have hone : ∀ u ∈ ([.int .i64 0, .string ⟨#[]⟩, .int .i64 p2.b, .int .i64 p2.g, .int .i64 p2.l, .int .i64 p2.c] : List Value), u.oneCell' = true := by
          intro u hu
          simp only [List.mem_cons, List.not_mem_nil, or_false] at hu
          rcases hu with rfl | rfl | rfl | rfl | rfl | rfl <;> rfl
        have hbT : Below w3.heap.size w3 ((w3.alloc (.cells #[.int .i64 0, .string ⟨#[]⟩, .int .i64 p2.b, .int .i64 p2.g, .int .i64 p2.l, .int .i64 p2.c] 35)).alloc (.cells #[.int .i64 p2.b, .int .i64 p2.g, .int .i64 p2.l, .int .i64 p2.c] 25)) := below_two _ _ _
        have hbT3 : Below w3.heap.size w3 (((w3.alloc (.cells #[.int .i64 0, .string ⟨#[]⟩, .int .i64 p2.b, .int .i64 p2.g, .int .i64 p2.l, .int .i64 p2.c] 35)).alloc (.cells #[.int .i64 p2.b, .int .i64 p2.g, .int .i64 p2.l, .int .i64 p2.c] 25)).alloc (.cells #[.int .i64 0, .string ⟨#[]⟩, .int .i64 p2.b, .int .i64 p2.g, .int .i64 p2.l, .int .i64 p2.c] 35)) := hbT.alloc hbT.size _
        have hown := own_below HS3.out.own hbT3
        have hsz := HS3.out.siz
        have htok : (((w3.alloc (.cells #[.int .i64 0, .string ⟨#[]⟩, .int .i64 p2.b, .int .i64 p2.g, .int .i64 p2.l, .int .i64 p2.c] 35)).alloc (.cells #[.int .i64 p2.b, .int .i64 p2.g, .int .i64 p2.l, .int .i64 p2.c] 25)).alloc (.cells #[.int .i64 0, .string ⟨#[]⟩, .int .i64 p2.b, .int .i64 p2.g, .int .i64 p2.l, .int .i64 p2.c] 35)).heap[w3.heap.size]? = some (.cells #[.int .i64 0, .string ⟨#[]⟩, .int .i64 p2.b, .int .i64 p2.g, .int .i64 p2.l, .int .i64 p2.c] 35 (0, 0)) := (((Below.refl _ _).alloc (Nat.le_refl _) _).alloc (by simp [World.size_alloc]) _).block _ (by simp [World.size_alloc]) |>.trans (heap_alloc_new w3 _)
        go_wp2_with (at_builtin; refine wpList_append_lies _ rfl (.tmp 36) (.tmp 38) 23 rfl B 35 i0 _ 6 56 Tryd.underlying23 hi0 hz0 hz1 hz2 rfl (by decide) (.slice ta ts.length tc) ts.length (tflat ts) (by simp [Act.eval]) hown ⟨w3.heap.size + 1 + 1, 0, none⟩ 1 1 [.int .i64 0, .string ⟨#[]⟩, .int .i64 p2.b, .int .i64 p2.g, .int .i64 p2.l, .int .i64 p2.c] (by simp [Act.eval]) rfl (by have := World.news_of_block (heap_alloc_new ((w3.alloc (.cells #[.int .i64 0, .string ⟨#[]⟩, .int .i64 p2.b, .int .i64 p2.g, .int .i64 p2.l, .int .i64 p2.c] 35)).alloc (.cells #[.int .i64 p2.b, .int .i64 p2.g, .int .i64 p2.l, .int .i64 p2.c] 25)) (.cells #[.int .i64 0, .string ⟨#[]⟩, .int .i64 p2.b, .int .i64 p2.g, .int .i64 p2.l, .int .i64 p2.c] 35)); simpa [World.size_alloc] using this) hone (by omega) (by unfold maxLen; omega) (by omega) (by simp [World.size_alloc]; omega) _ rfl ?_; intro g1 cap1 w5 hown5 hgrow5 hat5 hlt5; have hkeep : w5.cell? ⟨w3.heap.size, 0, none⟩ = some (.int .i64 0) := keep_tok HS3.out.own hgrow5 htok; have HS5 := hide ((HS3.out.below hbT3).more hgrow5 (v' := .slice (some ⟨g1, 0, none⟩) (ts.length + 1) cap1) (n' := ts.length + 1) (xs' := tflat (ts ++ [⟨0, ⟨#[]⟩, p2⟩])) (by simpa [tflat_append, tflat] using hown5)); obtain ⟨hff, y0, y1, y2, y3⟩ := HS5.out.zer.cells; have f0 := frozen_of_row w5 f 0 _ _ HS5.out.zer; have f1 := frozen_of_row w5 f 1 _ _ HS5.out.zer; have f2 := frozen_of_row w5 f 2 _ _ HS5.out.zer; have f3 := frozen_of_row w5 f 3 _ _ HS5.out.zer)
        clear hown5 hgrow5 hat5 hlt5 hown hone hsz htok hbT hbT3
        have hX : PlB ((((w5.setCell ⟨f, 0, none⟩ (.int .i64 0)).setCell ⟨f, 1, none⟩ (.int .i64 0)).setCell ⟨f, 2, none⟩ (.int .i64 0)).setCell ⟨f, 3, none⟩ (.int .i64 0)) f plz := plB_fill (p' := plz) HS5.out.zer
        have hXB : Below w.heap.size w ((((w5.setCell ⟨f, 0, none⟩ (.int .i64 0)).setCell ⟨f, 1, none⟩ (.int .i64 0)).setCell ⟨f, 2, none⟩ (.int .i64 0)).setCell ⟨f, 3, none⟩ (.int .i64 0)) := fill_below HS5.out.bel hf _ _ _ _
        have hXO : World.ownsRow ((((w5.setCell ⟨f, 0, none⟩ (.int .i64 0)).setCell ⟨f, 1, none⟩ (.int .i64 0)).setCell ⟨f, 2, none⟩ (.int .i64 0)).setCell ⟨f, 3, none⟩ (.int .i64 0)) w.heap.size 35 6 (.slice (some ⟨g1, 0, none⟩) (ts.length + 1) cap1) (ts.length + 1) (tflat (ts ++ [(⟨0, ⟨#[]⟩, p2⟩ : Tk)])) := by
          refine own_mono (own_keep HS5.out.own ?_) (show w.heap.size ≤ B by have := HS5.out.fB; omega)
          intro k o hk he
          have hkf : k ≠ f := by have := HS5.out.fB; omega
          rw [heap_setCell_other _ ⟨f, 3, none⟩ k _ hkf, heap_setCell_other _ ⟨f, 2, none⟩ k _ hkf, heap_setCell_other _ ⟨f, 1, none⟩ k _ hkf, heap_setCell_other _ ⟨f, 0, none⟩ k _ hkf]
          exact he
        generalize (((w5.setCell ⟨f, 0, none⟩ (.int .i64 0)).setCell ⟨f, 1, none⟩ (.int .i64 0)).setCell ⟨f, 2, none⟩ (.int .i64 0)).setCell ⟨f, 3, none⟩ (.int .i64 0) = wf at hX hXB hXO ⊢
        obtain ⟨_, x0, x1, x2, x3⟩ := hX.cells
        refine bodyPost_ret (v := .tuple #[.slice (some ⟨g1, 0, none⟩) (ts.length + 1) cap1, .int .i64 0, plz.v]) (by simp [results, Tryd.results10, go_sem, x0, x1, x2, x3]; try rfl) rfl ⟨hXB, .ok (ts ++ [(⟨0, ⟨#[]⟩, e⟩ : Tk)]), HE.out _ (ScanR.done gs' HGS.out hbe), _, rfl, ?_⟩
        have hlen : (ts ++ [(⟨0, ⟨#[]⟩, e⟩ : Tk)]).length = ts.length + 1 := by simp
        rw [hlen, ← HPE.out]
        exact hXO
      | cons g t =>
        rw [hgs] at HSN2
        have HGS := hide hgs
        clear hgs hgo hsn2
        go_wp2_with fail
        refine (rtoken_any w2 q s p2 e g t HS2.out.rdr hs HSN2.out HOK2.out hpb2).mono ?_
        rintro r w3 ⟨ht3, o, ho, hO⟩
        have HGP := hide HSN2.out.tail.1
        cases o with
        | bad k =>
          obtain ⟨tk, rfl⟩ := hO
          have hk : k ≠ 0 := by rcases tokR_bad ho with h | h | h <;> omega
          have hk' : (k != 0) = true := by simp [hk]
          have HB3 := hide (below_tq HS2.out.bel ht3 HS2.out.qw (Nat.le_refl _))
          have HZ3 := hide (HS2.out.zer.tq ht3 hfq)
          have HO := hide ho
          clear ht3 ho hk HS2
          unfold Tk.v Pl.v
          simp only
          go_wp2_with fail
          have hbT : Below w3.heap.size w3 ((w3.alloc (.cells #[.int .i64 tk.kind, .string tk.text, .int .i64 tk.pl.b, .int .i64 tk.pl.g, .int .i64 tk.pl.l, .int .i64 tk.pl.c] 35)).alloc (.cells #[.int .i64 p2.b, .int .i64 p2.g, .int .i64 p2.l, .int .i64 p2.c] 25)) := below_two _ _ _
          have hP4 : PlB ((w3.alloc (.cells #[.int .i64 tk.kind, .string tk.text, .int .i64 tk.pl.b, .int .i64 tk.pl.g, .int .i64 tk.pl.l, .int .i64 tk.pl.c] 35)).alloc (.cells #[.int .i64 p2.b, .int .i64 p2.g, .int .i64 p2.l, .int .i64 p2.c] 25)) (w3.heap.size + 1) p2 := by
            have := heap_alloc_new (w3.alloc (.cells #[.int .i64 tk.kind, .string tk.text, .int .i64 tk.pl.b, .int .i64 tk.pl.g, .int .i64 tk.pl.l, .int .i64 tk.pl.c] 35)) (.cells #[.int .i64 p2.b, .int .i64 p2.g, .int .i64 p2.l, .int .i64 p2.c] 25)
            rwa [World.size_alloc] at this
          generalize (w3.alloc (.cells #[.int .i64 tk.kind, .string tk.text, .int .i64 tk.pl.b, .int .i64 tk.pl.g, .int .i64 tk.pl.l, .int .i64 tk.pl.c] 35)).alloc (.cells #[.int .i64 p2.b, .int .i64 p2.g, .int .i64 p2.l, .int .i64 p2.c] 25) = w4 at hbT hP4 ⊢
          have hZ4 := HZ3.out.below hbT
          have HB4 := hide (HB3.out.trans (hbT.mono HB3.out.size))
          have HZ4 := hide hZ4
          generalize w3.heap.size + 1 = aP at hP4 ⊢
          obtain ⟨_, c0, c1, c2, c3⟩ := hP4.cells
          obtain ⟨hff, y0, y1, y2, y3⟩ := hZ4.cells
          have f0 := frozen_of_row w4 f 0 _ _ hZ4
          have f1 := frozen_of_row w4 f 1 _ _ hZ4
          have f2 := frozen_of_row w4 f 2 _ _ hZ4
          have f3 := frozen_of_row w4 f 3 _ _ hZ4
          clear hP4 hZ4 hbT
          go_region
          go_wp2
          have hX : PlB (((((w4.setCell ⟨f, 0, none⟩ (.int .i64 p2.b)).setCell ⟨f, 1, none⟩ (.int .i64 p2.g)).setCell ⟨f, 2, none⟩ (.int .i64 p2.l)).setCell ⟨f, 3, none⟩ (.int .i64 p2.c)).drew) f p2 := (plB_fill HZ4.out).below ((Below.refl _ _).drew)
          have hXB : Below w.heap.size w (((((w4.setCell ⟨f, 0, none⟩ (.int .i64 p2.b)).setCell ⟨f, 1, none⟩ (.int .i64 p2.g)).setCell ⟨f, 2, none⟩ (.int .i64 p2.l)).setCell ⟨f, 3, none⟩ (.int .i64 p2.c)).drew) := (fill_below HB4.out hf _ _ _ _).drew
          generalize ((((w4.setCell ⟨f, 0, none⟩ (.int .i64 p2.b)).setCell ⟨f, 1, none⟩ (.int .i64 p2.g)).setCell ⟨f, 2, none⟩ (.int .i64 p2.l)).setCell ⟨f, 3, none⟩ (.int .i64 p2.c)).drew = wf at hX hXB ⊢
          obtain ⟨_, x0, x1, x2, x3⟩ := hX.cells
          refine bodyPost_ret (v := _) (by simp [results, Tryd.results10, go_sem, x0, x1, x2, x3]; try rfl) rfl ⟨hXB, .bad k g.pl, ?_, by rw [HGP.out]; rfl⟩
          exact HE.out _ (ScanR.bad gs' g t k HGS.out HO.out)
        | ok kd tx rest =>
          obtain ⟨rfl, p3, hR3, hsn3, hok3, hpb3⟩ := hO
          obtain ⟨⟨j, hj1, hj2, hjr⟩, hkd⟩ := ho.rest
          have hp23 : p2.b < p3.b := by
            have hdd := HSN2.out.drop HOK2.out hpb2 j hj2
            rw [← hjr, hsn3.plf] at hdd
            have := hdd.2.2.1
            omega
          have hkn : (kd == 0) = false := by rcases hkd with rfl | rfl | rfl <;> rfl
          have HS3 := hide (HS2.out.tq ht3 hR3)
          have HSN3 := hide hsn3
          have HOK3 := hide hok3
          have HO := hide ho
          clear ht3 hR3 HS2 hsn3 hok3 ho hj1 hj2 hjr hkd
          unfold Tk.v Pl.v
          simp only
          have hone : ∀ u ∈ ([.int .i64 kd, .string tx, .int .i64 p2.b, .int .i64 p2.g, .int .i64 p2.l, .int .i64 p2.c] : List Value), u.oneCell' = true := by
            intro u hu
            simp only [List.mem_cons, List.not_mem_nil, or_false] at hu
            rcases hu with rfl | rfl | rfl | rfl | rfl | rfl <;> rfl
          have hbT : Below w3.heap.size w3 ((w3.alloc (.cells #[.int .i64 kd, .string tx, .int .i64 p2.b, .int .i64 p2.g, .int .i64 p2.l, .int .i64 p2.c] 35)).alloc (.cells #[.int .i64 p2.b, .int .i64 p2.g, .int .i64 p2.l, .int .i64 p2.c] 25)) := below_two _ _ _
          have hbT3 : Below w3.heap.size w3 (((w3.alloc (.cells #[.int .i64 kd, .string tx, .int .i64 p2.b, .int .i64 p2.g, .int .i64 p2.l, .int .i64 p2.c] 35)).alloc (.cells #[.int .i64 p2.b, .int .i64 p2.g, .int .i64 p2.l, .int .i64 p2.c] 25)).alloc (.cells #[.int .i64 kd, .string tx, .int .i64 p2.b, .int .i64 p2.g, .int .i64 p2.l, .int .i64 p2.c] 35)) := hbT.alloc hbT.size _
          have hown := own_below HS3.out.own hbT3
          have hsz := HS3.out.siz
          have htok : (((w3.alloc (.cells #[.int .i64 kd, .string tx, .int .i64 p2.b, .int .i64 p2.g, .int .i64 p2.l, .int .i64 p2.c] 35)).alloc (.cells #[.int .i64 p2.b, .int .i64 p2.g, .int .i64 p2.l, .int .i64 p2.c] 25)).alloc (.cells #[.int .i64 kd, .string tx, .int .i64 p2.b, .int .i64 p2.g, .int .i64 p2.l, .int .i64 p2.c] 35)).heap[w3.heap.size]? = some (.cells #[.int .i64 kd, .string tx, .int .i64 p2.b, .int .i64 p2.g, .int .i64 p2.l, .int .i64 p2.c] 35 (0, 0)) := (((Below.refl _ _).alloc (Nat.le_refl _) _).alloc (by simp [World.size_alloc]) _).block _ (by simp [World.size_alloc]) |>.trans (heap_alloc_new w3 _)
          go_wp2_with (at_builtin; refine wpList_append_lies _ rfl (.tmp 36) (.tmp 38) 23 rfl B 35 i0 _ 6 56 Tryd.underlying23 hi0 hz0 hz1 hz2 rfl (by decide) (.slice ta ts.length tc) ts.length (tflat ts) (by simp [Act.eval]) hown ⟨w3.heap.size + 1 + 1, 0, none⟩ 1 1 [.int .i64 kd, .string tx, .int .i64 p2.b, .int .i64 p2.g, .int .i64 p2.l, .int .i64 p2.c] (by simp [Act.eval]) rfl (by have := World.news_of_block (heap_alloc_new ((w3.alloc (.cells #[.int .i64 kd, .string tx, .int .i64 p2.b, .int .i64 p2.g, .int .i64 p2.l, .int .i64 p2.c] 35)).alloc (.cells #[.int .i64 p2.b, .int .i64 p2.g, .int .i64 p2.l, .int .i64 p2.c] 25)) (.cells #[.int .i64 kd, .string tx, .int .i64 p2.b, .int .i64 p2.g, .int .i64 p2.l, .int .i64 p2.c] 35)); simpa [World.size_alloc] using this) hone (by omega) (by unfold maxLen; omega) (by omega) (by simp [World.size_alloc]; omega) _ rfl ?_; intro g1 cap1 w5 hown5 hgrow5 hat5 hlt5; have hkeep : w5.cell? ⟨w3.heap.size, 0, none⟩ = some (.int .i64 kd) := keep_tok HS3.out.own hgrow5 htok)
          have HS5 := hide ((HS3.out.below hbT3).more hgrow5 (v' := .slice (some ⟨g1, 0, none⟩) (ts.length + 1) cap1) (n' := ts.length + 1) (xs' := tflat (ts ++ [⟨kd, tx, p2⟩])) (by simpa [tflat_append, tflat] using hown5))
          clear hown5 hgrow5 hat5 hlt5 hown hone hsz htok hbT hbT3
          go_roundw
          case rel =>
            refine ⟨ts ++ [⟨kd, tx, p2⟩], p3, some ⟨g1, 0, none⟩, cap1, rest, by simp, ?_, HOK3.out, hpb3, by simp; omega, HSN3.out, ?_⟩
            · have := HS5.out
              simpa using this
            · intro o ho
              have h1 := HE.out _ (ScanR.tok gs' g t kd tx rest o HGS.out HO.out ho)
              rw [HGP.out, pres_pre] at h1
              exact h1
          case measure => rw [IP.out, HS5.out.rdr.pos]; omega
end Lm
end Go.Proofs.YtgfglefgpgckiaaDoor

namespace Go.Proofs.YtgfglefgpgckiaaDoor
namespace Lm
open Go Go.RowKit
def nmS (s : ByteArray) : SO → Bool
  | .ok (t :: _) => (t.kind == 1) && (t.text.toList == s.toList)
  | _ => false
theorem encs_nil {u : List Nat} (h : encs u = []) : u = [] := by
  cases u with
  | nil => rfl
  | cons c u =>
    have h1 := encL_pos c
    have h2 := congrArg List.length h
    simp only [encs, List.length_append, List.length_nil] at h2
    omega
theorem name_two {s : ByteArray} {gs : List Gl} {e : Pl} {l : List Tk} (hQ : Snd s pl0 gs e) (hR : ScanR s e gs (.ok l)) : ∃ t r, l = t :: r ∧ (t.kind = 1 → t.text = s → l.length = 2) := by
  obtain ⟨cs, rfl, rfl, hc, hb⟩ := snd_codes hQ (scanR_end hR) (Nat.zero_le _)
  have hsb : s.data.toList = [] ++ encs cs := by simpa [pl0] using hb
  have hC := scanR_C s cs [] pl0 rfl hsb l hR
  generalize hm : (l.map fun t => (t.kind, t.text)) = ts at hC
  cases hC with
  | done _ h1 =>
    cases l with
    | nil => simp at hm
    | cons t r =>
      refine ⟨t, r, rfl, fun hk _ => ?_⟩
      simp only [List.map_cons, List.cons.injEq, Prod.mk.injEq] at hm
      omega
  | tok _ k x rest ts' h1 h2 =>
    cases l with
    | nil => simp at hm
    | cons t r =>
      refine ⟨t, r, rfl, fun hk hx => ?_⟩
      simp only [List.map_cons, List.cons.injEq, Prod.mk.injEq] at hm
      obtain ⟨⟨e1, e2⟩, e3⟩ := hm
      obtain ⟨a, hsp, _⟩ := skp_glf false pl0 cs
      have hk1 : k = 1 := by omega
      have hxs : x = s := by rw [← e2, hx]
      clear e1 e2 hk hx
      subst hk1
      generalize hq : skc false cs = q at h1 hsp
      cases h1 with
      | name c u _ hc2 hu hr hl =>
        have h3 := congrArg (fun b => b.data.toList) hxs
        rw [hsb, hsp, encs_append, encs_append] at h3
        simp only [bts, List.nil_append] at h3
        have h4 := congrArg List.length h3
        simp only [List.length_append] at h4
        have h5 : encs rest = [] := List.eq_nil_of_length_eq_zero (by omega)
        have h6 := encs_nil h5
        subst h6
        cases h2 with
        | done _ _ =>
          have := congrArg List.length e3
          simpa using this
        | tok _ _ _ _ _ h7 _ =>
          exfalso
          generalize hz : skc false [] = z at h7
          have : z = [] := by rw [← hz]; rfl
          subst this
          generalize hy : ([] : List Nat) = y at h7
          cases h7 <;> simp at hy
set_option maxRecDepth 20000 in
set_option maxHeartbeats 2000000 in
theorem name_prog (w : World) (hT : Tabs w) (s : ByteArray) (hs : s.size ≤ 4096) (gs : List Gl) (e : Pl) (hQ : Snd s pl0 gs e) :
    Calls Tryd.prog 15 #[.string s] w fun r w' => Below w.heap.size w w' ∧ ∃ o, ScanR s e gs o ∧ r = .returned (.bool (nmS s o)) := by
  have HT := hide hT
  have HQ := hide hQ
  clear hT hQ
  go_enter Tryd.func15, Tryd.ntmps15
  go_wp2_with fail
  refine (scan_short w s HT.out hs).mono ?_
  rintro r w1 ⟨hb1, gs', e', o, h1, h2, h3⟩
  obtain ⟨rfl, rfl⟩ := h1.one HQ.out
  have HB := hide (hb1.alloc hb1.size (.cells #[.int .i64 0, .int .i64 0, .int .i64 0, .int .i64 0] 25))
  have HBr := hide hb1
  have HR := hide h2
  clear hb1 h1
  cases o with
  | bad k p =>
    have hk : (k == 0) = false := beq_eq_false_iff_ne.2 (scanR_bad h2)
    obtain rfl := h3
    clear h2
    unfold Pl.v
    go_wp2
    go_ret
    exact ⟨HBr.out.alloc HBr.out.size _, _, HR.out, rfl⟩
  | ok l =>
    obtain ⟨v, rfl, hown⟩ := h3
    have hTs : Ts w1 v l := Ts.own hown
    obtain ⟨t, rr, rfl, _⟩ := name_two HQ.out h2
    obtain ⟨ao, cap, rfl, hn⟩ := hTs.parts
    obtain ⟨b, off, rfl, g⟩ := hTs.tok (i := 0) (t := t) rfl
    obtain ⟨_, a0, a1, _, _, _, _⟩ := g.below ((Below.refl _ _).alloc (Nat.le_refl _) (.cells #[.int .i64 0, .int .i64 0, .int .i64 0, .int .i64 0] 25))
    rw [Nat.zero_mul, Nat.add_zero] at a0 a1
    have hln : (0 : Int) < ((t :: rr).length : Int) := by simp
    clear g hown h2 hTs
    generalize (t :: rr).length = n at hn hln ⊢
    unfold Pl.v
    simp only [plz]
    by_cases hk : t.kind = 1
    · have hk' : (t.kind == 1) = true := by rw [hk]; rfl
      go_wp2
      go_ret
      exact ⟨HB.out, _, HR.out, by simp only [nmS, hk', Bool.true_and]; rfl⟩
    · have hk' : (t.kind == 1) = false := beq_eq_false_iff_ne.2 hk
      go_wp2
      go_ret
      exact ⟨HB.out, _, HR.out, by simp only [nmS, hk', Bool.false_and]; rfl⟩
set_option maxRecDepth 20000 in
set_option maxHeartbeats 1000000 in
theorem name_long (w : World) (s : ByteArray) (hs : 4096 < s.size) :
    Calls Tryd.prog 15 #[.string s] w fun r w' => Below w.heap.size w w' ∧ r = .returned (.bool false) := by
  go_enter Tryd.func15, Tryd.ntmps15
  go_wp2_with fail
  refine (scan_long w s hs).mono ?_
  rintro r w1 ⟨hb1, rfl⟩
  unfold Pl.v
  go_wp2
  go_ret
  exact ⟨hb1.alloc hb1.size _, rfl⟩
set_option maxRecDepth 20000 in
set_option maxHeartbeats 1000000 in
theorem rname_long (w : World) (s : ByteArray) (hs : 4096 < s.size) :
    Calls Tryd.prog 16 #[.string s] w fun r w' => Below w.heap.size w w' ∧ r = .returned (.bool false) := by
  go_enter Tryd.func16, Tryd.ntmps16
  go_wp2_with fail
  refine (rscan_long w s hs).mono ?_
  rintro r w1 ⟨hb1, rfl⟩
  unfold Pl.v
  go_wp2
  go_ret
  exact ⟨hb1.alloc hb1.size _, rfl⟩
set_option maxRecDepth 20000 in
set_option maxHeartbeats 2000000 in
theorem rname_short (w : World) (s : ByteArray) (hs : s.size ≤ 4096) (gs : List Gl) (e : Pl) (hQ : Snd s pl0 gs e) :
    Calls Tryd.prog 16 #[.string s] w fun r w' => Below w.heap.size w w' ∧ ∃ o, ScanR s e gs o ∧ r = .returned (.bool (nmS s o)) := by
  have HQ := hide hQ
  clear hQ
  go_enter Tryd.func16, Tryd.ntmps16
  go_wp2_with fail
  refine (rscan_short w s hs gs e HQ.out).mono ?_
  rintro r w1 ⟨hb1, o, h2, h3⟩
  have HB := hide (hb1.alloc hb1.size (.cells #[.int .i64 0, .int .i64 0, .int .i64 0, .int .i64 0] 25))
  have HBr := hide hb1
  have HR := hide h2
  clear hb1
  cases o with
  | bad k p =>
    have hk : (k == 0) = false := beq_eq_false_iff_ne.2 (scanR_bad h2)
    obtain rfl := h3
    clear h2
    unfold Pl.v
    go_wp2
    go_ret
    exact ⟨HBr.out.alloc HBr.out.size _, _, HR.out, rfl⟩
  | ok l =>
    obtain ⟨v, rfl, hown⟩ := h3
    have hTs : Ts w1 v l := Ts.own hown
    obtain ⟨t, rr, rfl, h22⟩ := name_two HQ.out h2
    obtain ⟨ao, cap, rfl, hn⟩ := hTs.parts
    obtain ⟨b, off, rfl, g⟩ := hTs.tok (i := 0) (t := t) rfl
    obtain ⟨_, a0, a1, _, _, _, _⟩ := g.below ((Below.refl _ _).alloc (Nat.le_refl _) (.cells #[.int .i64 0, .int .i64 0, .int .i64 0, .int .i64 0] 25))
    rw [Nat.zero_mul, Nat.add_zero] at a0 a1
    have hln : (0 : Int) < ((t :: rr).length : Int) := by simp
    have H22 := hide h22
    clear g hown h2 hTs h22
    by_cases h2 : (t :: rr).length = 2
    · have hl2 : (((t :: rr).length : Int) == 2) = true := by rw [h2]; rfl
      clear H22 h2
      generalize (t :: rr).length = n at hn hln hl2 ⊢
      unfold Pl.v
      simp only [plz]
      by_cases hk : t.kind = 1
      · have hk' : (t.kind == 1) = true := by rw [hk]; rfl
        go_wp2
        go_ret
        exact ⟨HB.out, _, HR.out, by simp only [nmS, hk', Bool.true_and]; rfl⟩
      · have hk' : (t.kind == 1) = false := beq_eq_false_iff_ne.2 hk
        go_wp2
        go_ret
        exact ⟨HB.out, _, HR.out, by simp only [nmS, hk', Bool.false_and]; rfl⟩
    · have hl2 : (((t :: rr).length : Int) == 2) = false := beq_eq_false_iff_ne.2 (by omega)
      have hno : nmS s (.ok (t :: rr)) = false := by
        simp only [nmS, Bool.and_eq_false_iff, beq_eq_false_iff_ne]
        by_cases hk : t.kind = 1
        · right
          intro hx
          refine h2 (H22.out hk ?_)
          rw [ByteArray.toList_eq, ByteArray.toList_eq] at hx
          rw [ba_ext hx, ← ba_ext rfl]
        · exact .inl hk
      have HNO := hide hno
      clear H22 h2 hno
      generalize (t :: rr).length = n at hn hln hl2 ⊢
      unfold Pl.v
      simp only [plz]
      go_wp2
      go_ret
      exact ⟨HB.out, _, HR.out, by rw [HNO.out]; rfl⟩
end Lm
end Go.Proofs.YtgfglefgpgckiaaDoor

namespace Go.Proofs.YtgfglefgpgckiaaDoor
namespace Lm
open Go Go.RowKit
theorem bts_append (a b : List UInt8) : bts a ++ bts b = bts (a ++ b) := by
  have h : (bts a ++ bts b).data.toList = a ++ b := by simp [bts]
  exact ba_ext h
theorem bts_size (a : List UInt8) : (bts a).size = a.length := by
  show a.toArray.size = _
  simp
end Lm
end Go.Proofs.YtgfglefgpgckiaaDoor

namespace Go.Proofs.YtgfglefgpgckiaaDoor
namespace Lm
open Go Go.RowKit
set_option maxRecDepth 20000 in
set_option maxHeartbeats 2000000 in
theorem rjoin_any (w : World) (v : Value) (l : List Tk) (ht : Ts w v l) (hz : (jpre (l.map Tk.text)).length ≤ 70368744177664) :
    Calls Tryd.prog 18 #[v] w fun r w' => r = .returned (.string ⟨(jpre (l.map Tk.text)).toArray⟩) ∧ w' = w := by
  obtain ⟨ao, cap, rfl, hn0⟩ := ht.parts
  have HT := hide ht
  have HZ := hide hz
  clear ht hz
  obtain ⟨n, hn⟩ : ∃ n, l.length = n := ⟨_, rfl⟩
  have HN := hide hn
  rw [hn] at hn0 ⊢
  simp only [hn] at HT
  clear hn
  go_enter Tryd.func18, Tryd.ntmps18
  go_wp2_with fail
  go_loopw [3, 4] (fun sv iv wr => ∃ (A : ByteArray) (i : Nat), sv = .string A ∧ iv = .int .i64 i ∧ i ≤ n ∧ A = bts (jpre ((l.map Tk.text).take i)) ∧ wr = w) (fun _ iv _ => n - (intOf iv).toNat)
  case atStart => exact ⟨⟨#[]⟩, 0, rfl, rfl, Nat.zero_le _, rfl, rfl⟩
  case round =>
    obtain ⟨A, i, rfl, rfl, hi, hA, rfl⟩ := hrel
    have HA := hide hA
    clear hA
    by_cases hlt : i < n
    · have h1 : l[i]? = some (l[i]'(by rw [HN.out]; exact hlt)) := List.getElem?_eq_getElem _
      obtain ⟨b, off, rfl, g⟩ := HT.out.tok h1
      have hst : (l.map Tk.text).take (i + 1) = (l.map Tk.text).take i ++ [(l[i]'(by rw [HN.out]; exact hlt)).text] := by
        rw [List.take_add_one, List.getElem?_map, h1]; rfl
      generalize l[i]'(by rw [HN.out]; exact hlt) = t at h1 g hst
      have hle := jpre_le (l.map Tk.text) (i + 1)
      have hz := HZ.out
      have hnl : (l.map Tk.text).take i = [] ↔ i = 0 := by
        constructor
        · intro h
          have := congrArg List.length h
          simp at this
          rcases this with h | h
          · exact h
          · rw [h] at h1; simp at h1
        · rintro rfl; rfl
      rw [hst, jpre_snoc] at hle
      have HST := hide hst
      have hAz : A.size = (jpre ((l.map Tk.text).take i)).length := by rw [HA.out, bts_size]
      obtain ⟨_, a0, a1, a2, a3, a4, a5⟩ := g
      have hlt' : (i : Int) < (n : Int) := by omega
      have hsx : t.text.size = t.text.data.toList.length := rfl
      generalize hJ : jpre ((l.map Tk.text).take i) = J at hle hAz
      have HJ := hide hJ
      simp only [List.length_append] at hle
      clear h1 hst a0 a2 a3 a4 a5 hJ
      by_cases h0 : i = 0
      · have hi0 : decide ((0 : Int) < (i : Int)) = false := by simp; omega
        have hi1 : decide (0 < i) = false := by simp; omega
        have H0 := hide h0
        have hadd : ∀ w, (Op.stringOp .add A t.text).run Tryd.prog w = .ok (.string (A ++ t.text)) w := fun w => run_string_add_sum (P := Tryd.prog) w A _ (by omega)
        clear hle hAz hsx h0
        go_wp2
        go_roundw
        case rel =>
          refine ⟨_, i + 1, rfl, by go_num, by omega, ?_, trivial⟩
          rw [HST.out, jpre_snoc, if_pos (hnl.2 H0.out), List.append_nil, HJ.out, HA.out, HJ.out]
          conv => lhs; rw [ba_ext (s := t.text) rfl]
          exact bts_append _ _
        case measure => simp [intOf]; omega
      · have hi0 : (0 : Int) < (i : Int) := by omega
        have hif : ¬ (l.map Tk.text).take i = [] := fun h => h0 (hnl.1 h)
        rw [if_neg hif] at hle
        simp only [List.length_singleton] at hle
        have hadd : ∀ w, (Op.stringOp .add A ⟨#[32]⟩).run Tryd.prog w = .ok (.string (A ++ ⟨#[32]⟩)) w := fun w => run_string_add_sum (P := Tryd.prog) w A _ (by show A.size + 1 ≤ _; omega)
        have hadd2 : ∀ w, (Op.stringOp .add (A ++ ⟨#[32]⟩) t.text).run Tryd.prog w = .ok (.string (A ++ ⟨#[32]⟩ ++ t.text)) w := fun w => run_string_add_sum (P := Tryd.prog) w _ _ (by rw [ByteArray.size_append]; show A.size + 1 + t.text.size ≤ _; omega)
        have HIF := hide hif
        clear hle hAz hsx h0 hif
        go_wp2
        go_roundw
        case rel =>
          refine ⟨_, i + 1, rfl, by go_num, by omega, ?_, trivial⟩
          rw [HST.out, jpre_snoc, if_neg HIF.out, HJ.out, HA.out, HJ.out]
          conv => lhs; rw [ba_ext (s := t.text) rfl]
          rw [show (⟨#[32]⟩ : ByteArray) = bts [32] from rfl, bts_append]
          exact bts_append _ _
        case measure => simp [intOf]; omega
    · have hlt' : decide ((i : Int) < (n : Int)) = false := by simp; omega
      have hta : (l.map Tk.text).take i = l.map Tk.text := by rw [List.take_of_length_le]; simp; have := HN.out; omega
      rw [hta] at HA
      clear hta
      go_wp2
      go_ret
      exact ⟨by rw [HA.out]; rfl, rfl⟩
end Lm
end Go.Proofs.YtgfglefgpgckiaaDoor

namespace Go.Proofs.YtgfglefgpgckiaaDoor
namespace Lm
open Go Go.RowKit
def Strs (w : World) (v : Value) (ss : List ByteArray) : Prop := Ce w v 1 ss.length (ss.map Value.string)
theorem Strs.below {w w' : World} {v : Value} {ss : List ByteArray} (h : Strs w v ss) (hb : Below w.heap.size w w') : Strs w' v ss := Ce.below h hb
theorem Strs.cell {w : World} {ao : Option Addr} {n cap : Nat} {ss : List ByteArray} {i : Nat} {x : ByteArray} (h : Strs w (.slice ao n cap) ss) (hg : ss[i]? = some x) : ∃ b off, ao = some ⟨b, off, none⟩ ∧ b < w.heap.size ∧ w.cell? ⟨b, off + i, none⟩ = some (.string x) := by
  obtain ⟨ao', cap', hv, c1, c2, c3, c4⟩ := h
  obtain ⟨rfl, rfl, rfl⟩ := (Value.slice.injEq .. ▸ hv)
  have hk : i < ss.length := (List.getElem?_eq_some_iff.1 hg).1
  rcases c4 with c4 | ⟨b, off, rfl, hl, hc⟩
  · omega
  · exact ⟨b, off, rfl, hl, hc _ _ (by simp [hg])⟩
def tks : Nat → List ByteArray → List Tk
  | _, [] => []
  | k, x :: r => ⟨(k : Int), x, plz⟩ :: tks (k + 1) r
theorem tks_append (k : Nat) (a b : List ByteArray) : tks k (a ++ b) = tks k a ++ tks (k + a.length) b := by
  induction a generalizing k with
  | nil => rfl
  | cons x a ih => simp only [List.cons_append, tks, ih, List.length_cons]; rw [show k + 1 + a.length = k + (a.length + 1) from by omega]
theorem tks_length (k : Nat) (a : List ByteArray) : (tks k a).length = a.length := by
  induction a generalizing k with
  | nil => rfl
  | cons x a ih => simp [tks, ih]
theorem tks_text (k : Nat) (a : List ByteArray) : (tks k a).map Tk.text = a := by
  induction a generalizing k with
  | nil => rfl
  | cons x a ih => simp [tks, ih]
theorem names_pair (w : World) (hT : Tabs w) (s : ByteArray) :
    Calls Tryd.prog 15 #[.string s] w fun r w' => Below w.heap.size w w' ∧ ∃ b : Bool, r = .returned (.bool b) ∧ ∀ W, Calls Tryd.prog 16 #[.string s] W fun r w' => Below W.heap.size W w' ∧ r = .returned (.bool b) := by
  by_cases hs : 4096 < s.size
  · refine (name_long w s hs).mono fun r w' h => ⟨h.1, false, h.2, fun W => rname_long W s hs⟩
  · obtain ⟨gs, e, hQ⟩ := snd_is s s.size pl0 (by simp [pl0])
    refine (name_prog w hT s (by omega) gs e hQ).mono ?_
    rintro r w' ⟨hb, o, hR, rfl⟩
    refine ⟨hb, _, rfl, fun W => (rname_short W s (by omega) gs e hQ).mono ?_⟩
    rintro r w2 ⟨hb2, o2, hR2, rfl⟩
    obtain rfl := hR2.one hR
    exact ⟨hb2, rfl⟩
set_option maxRecDepth 20000 in
set_option maxHeartbeats 4000000 in
theorem glyphnames_any (w : World) (hT : Tabs w) (s : ByteArray) (v : Value) (ss : List ByteArray) (hv : Strs w v ss) (hz : (jpre ss).length ≤ 70368744177664) (hn1 : ss.length ≤ 1099511627776) :
    Calls Tryd.prog 4 #[.string s, v] w fun r w' => r = .returned (.bool true) ∧ Below w.heap.size w w' := by
  have HT := hide hT
  have HZ := hide hz
  clear hT hz
  obtain ⟨n, hn⟩ : ∃ n, ss.length = n := ⟨_, rfl⟩
  have hvs : ∃ ao cap, v = .slice ao n cap := by
    obtain ⟨ao, cap, h, _⟩ := hv
    exact ⟨ao, cap, by rw [h, hn]⟩
  obtain ⟨ao, cap, rfl⟩ := hvs
  have HV := hide hv
  have HN := hide hn
  rw [hn] at hn1
  clear hv hn
  go_enter Tryd.func4, Tryd.ntmps4
  go_wp2_with fail
  refine (gawake_any w HT.out).mono ?_
  rintro r w1 ⟨rfl, hb1⟩
  have HB1 := hide hb1
  have HV1 := hide (HV.out.below hb1)
  clear hb1 HV
  obtain ⟨B, hB⟩ : ∃ B, w1.heap.size = B := ⟨_, rfl⟩
  have HBB := hide hB
  clear hB
  go_wp2_with fail
  obtain ⟨i0, hi0, hz0, hz1, hz2⟩ := info_is infoT
  go_loopw [5, 6] (fun tv iv wr => ∃ (i : Nat) (ta : Option Addr) (tc : Nat), tv = .slice ta i tc ∧ iv = .int .i64 i ∧ i ≤ n ∧ wr.ownsRow B 35 6 (.slice ta i tc) i (tflat (tks 0 (ss.take i))) ∧ Below w1.heap.size w1 wr) (fun _ iv _ => n - (intOf iv).toNat)
  case atStart => exact ⟨0, none, 0, rfl, rfl, Nat.zero_le _, World.ownsRow_nil _ _ _ _, Below.refl _ _⟩
  case round =>
    obtain ⟨i, ta, tc, rfl, rfl, hi, hown, hbw⟩ := hrel
    have HOWN := hide hown
    have HW := hide hbw
    by_cases hlt : i < n
    · have h1 : ss[i]? = some (ss[i]'(by rw [HN.out]; exact hlt)) := List.getElem?_eq_getElem _
      have hst : tks 0 (ss.take (i + 1)) = tks 0 (ss.take i) ++ [⟨(i : Int), ss[i]'(by rw [HN.out]; exact hlt), plz⟩] := by
        rw [List.take_add_one, h1, tks_append]
        simp only [Option.toList, List.length_take, tks]
        congr 4
        have := HN.out
        omega
      obtain ⟨b, off, rfl, hbl, hc⟩ := (HV1.out.below hbw).cell h1
      generalize ss[i]'(by rw [HN.out]; exact hlt) = x at h1 hst hc
      have HST := hide hst
      have hlt' : (i : Int) < (n : Int) := by omega
      have hsz : B ≤ wr.heap.size := by have := HBB.out; have := hbw.size; omega
      have hone : ∀ u ∈ ([.int .i64 (i : Int), .string x, .int .i64 0, .int .i64 0, .int .i64 0, .int .i64 0] : List Value), u.oneCell' = true := by
        intro u hu
        simp only [List.mem_cons, List.not_mem_nil, or_false] at hu
        rcases hu with rfl | rfl | rfl | rfl | rfl | rfl <;> rfl
      have hbA : Below wr.heap.size wr (wr.alloc (.cells #[.int .i64 (i : Int), .string x, .int .i64 0, .int .i64 0, .int .i64 0, .int .i64 0] 35)) := (Below.refl _ _).alloc (Nat.le_refl _) _
      have hownA := own_below hown hbA
      clear h1 hst hown hbl
      go_wp2_with (at_builtin; refine wpList_append_lies _ rfl (.tmp 15) (.tmp 22) 23 rfl B 35 i0 _ 6 56 Tryd.underlying23 hi0 hz0 hz1 hz2 rfl (by decide) (.slice ta i tc) i (tflat (tks 0 (ss.take i))) (by simp [Act.eval]) hownA ⟨wr.heap.size, 0, none⟩ 1 1 [.int .i64 (i : Int), .string x, .int .i64 0, .int .i64 0, .int .i64 0, .int .i64 0] (by simp [Act.eval]) rfl (World.news_of_block (heap_alloc_new wr (.cells #[.int .i64 (i : Int), .string x, .int .i64 0, .int .i64 0, .int .i64 0, .int .i64 0] 35))) hone (by omega) (by unfold maxLen; omega) (by omega) (by simp [World.size_alloc]; omega) _ rfl ?_; intro g1 cap1 w5 hown5 hgrow5 hat5 hlt5)
      have hB5 : Below w1.heap.size w1 w5 := by
        have h1 := HW.out.trans (hbA.mono HW.out.size)
        refine h1.grown hgrow5 (by have := h1.size; omega) (fun k hk => ?_)
        obtain ⟨hl, ⟨h2, _⟩ | ⟨b2, cap2, cur2, h2, hb2, hh2, _⟩⟩ := HOWN.out
        · rw [h2] at hk; simp [Value.ownBlock] at hk
        · rw [h2] at hk
          simp only [Value.ownBlock, Option.some.injEq] at hk
          have := HBB.out
          omega
      have HB5 := hide hB5
      have ho5 : w5.ownsRow B 35 6 (.slice (some ⟨g1, 0, none⟩) (i + 1) cap1) (i + 1) (tflat (tks 0 (ss.take (i + 1)))) := by
        rw [HST.out, tflat_append]
        simpa [tflat, plz] using hown5
      have HO5 := hide ho5
      clear hown5 hgrow5 hat5 hlt5 hownA hbA hone hsz hc hbw hB5 ho5
      go_wp2
      go_roundw
      case rel => exact ⟨i + 1, some ⟨g1, 0, none⟩, cap1, by simp, by go_num, by omega, HO5.out, HB5.out⟩
      case measure => simp [intOf]; omega
    · have hlt' : decide ((i : Int) < (n : Int)) = false := by simp; omega
      have hin : ss.take i = ss := by rw [List.take_of_length_le]; have := HN.out; omega
      have hT5 : Ts wr (.slice ta i tc) (tks 0 ss) := by
        have := HOWN.out
        rw [hin] at this
        have hl : i = (tks 0 ss).length := by rw [tks_length]; have := HN.out; omega
        unfold Ts
        rw [← hl]
        exact Ce.own this
      have HT5 := hide hT5
      have HWw := hide (HB1.out.trans (HW.out.mono HB1.out.size))
      clear hin hown hbw hT5
      go_wp2_with fail
      refine (names_pair wr (HT.out.below HWw.out) s).mono ?_
      rintro r w6 ⟨hb6, b, rfl, KR⟩
      have HT6 := hide (HT5.out.below hb6)
      have HW6 := hide (HWw.out.trans (hb6.mono HWw.out.size))
      clear hb6
      go_wp2_with fail
      refine (KR w6).mono ?_
      rintro r w7 ⟨hb7, rfl⟩
      have HT7 := hide (HT6.out.below hb7)
      have HW7 := hide (HW6.out.trans (hb7.mono HW6.out.size))
      have hbb : (b == b) = true := by simp
      clear hb7 KR
      go_wp2_with fail
      refine (join_any w7 _ _ HT7.out (by rw [tks_text]; exact HZ.out)).mono ?_
      rw [tks_text]
      rintro r w8 ⟨rfl, hb8⟩
      have HT8 := hide (HT7.out.below hb8)
      have HW8 := hide (HW7.out.trans (hb8.mono HW7.out.size))
      clear hb8
      go_wp2_with fail
      refine (rjoin_any w8 _ _ HT8.out (by rw [tks_text]; exact HZ.out)).mono ?_
      rw [tks_text]
      rintro r w9 ⟨rfl, rfl⟩
      go_wp2
      go_ret
      exact ⟨by rfl, HW8.out⟩
end Lm
end Go.Proofs.YtgfglefgpgckiaaDoor

namespace Go.Proofs.YtgfglefgpgckiaaDoor
namespace Lm
open Go Go.RowKit Go.ChangeShapes Go.WideShapes Go.ChangeAt
theorem strs_open {w : World} {x : Addr} {l c : Nat} {ss : List ByteArray} (hl : l ≤ c) (hm : c ≤ maxLen) (hz : ss.length = c) (hcell : ∀ i, i < ss.length → w.cell? (x.add i) = some (.string (ss.getD i ByteArray.empty))) : Strs w (.slice (some x) l c) (ss.take l) := by
  have hll : (ss.take l).length = l := by rw [List.length_take]; omega
  refine ⟨some x, c, by rw [hll], by omega, by simpa [maxLen] using hm, by simp, ?_⟩
  by_cases h0 : l = 0
  · exact .inl (by omega)
  · obtain ⟨b, off, spot⟩ := x
    have h1 := hcell 0 (by omega)
    have hspot : spot = none := by simpa [Addr.add] using World.cell?_spot h1
    subst hspot
    have ha : ∀ i, (⟨b, off, none⟩ : Addr).add i = ⟨b, off + i, none⟩ := by
      intro i
      by_cases hi0 : i = 0
      · subst hi0; simp [Addr.add]
      · simp [Addr.add, hi0]
    refine .inr ⟨b, off, rfl, ?_, fun j u hu => ?_⟩
    · rw [ha] at h1
      exact lt_of_cell h1
    · obtain ⟨hj, hju⟩ := List.getElem?_eq_some_iff.1 hu
      simp only [List.length_map, hll] at hj
      have h2 := hcell j (by omega)
      rw [ha] at h2
      rw [h2]
      simp only [List.getElem_map, List.getElem_take] at hju
      rw [← hju, List.getD_eq_getElem?_getD, List.getElem?_eq_getElem (by omega)]
      rfl
theorem bulk_strs {H : Type} (ss : List ByteArray) : (jpre ss).length + ss.length ≤ 2 * Rows.uptoBulkAll (strs ss : List (DataW H)) := by
  have key : ∀ ss : List ByteArray, (ss.flatMap fun y => (32 : UInt8) :: y.data.toList).length = Rows.uptoBulkAll (strs ss : List (DataW H)) ∧ ss.length ≤ Rows.uptoBulkAll (strs ss : List (DataW H)) := by
    intro ss
    induction ss with
    | nil => exact ⟨rfl, Nat.le_refl _⟩
    | cons x r ih =>
      have e : (strs (x :: r) : List (DataW H)) = .lit (.string x.data.toList) :: strs r := rfl
      rw [e, Rows.uptoBulkAll, Rows.uptoBulk, List.flatMap_cons, List.length_append, List.length_cons, List.length_cons, ih.1]
      exact ⟨rfl, by have := ih.2; omega⟩
  have h := key ss
  have h2 : (jpre ss).length ≤ (ss.flatMap fun y => (32 : UInt8) :: y.data.toList).length := by
    cases ss with
    | nil => simp [jpre]
    | cons x r =>
      simp only [jpre, List.flatMap_cons, List.length_append, List.length_cons]
      omega
  omega
end Lm
end Go.Proofs.YtgfglefgpgckiaaDoor

namespace Go.Proofs.YtgfglefgpgckiaaDoor
namespace glyphNamesLaw
open Go.ChangeShapes Go.WideShapes Go.ChangeAt Go.RowKit
open Go.ChangeMaps (open_string shut_string)
theorem own : ownKnob Tryd.prog.godebug = none := by kernel_rfl
theorem laidOut : laidOutB Tryd.prog = true := by kernel_rfl
noncomputable def laidWorld (os : Os) : World :=
  let w0 := World.holding Tryd.prog os ⟨#[], #[], []⟩
  let put (h : Array Obj) (g : Nat) (cs : Array Value) : Array Obj := h.modify g fun
    | .cells _ t frozen => .cells cs t frozen
    | o => o
  let h1 := put w0.heap (Tryd.lays197_ren.g 3) (Lib.firstTab.map fun z => Value.int .u8 z).toArray
  let h2 := put h1 (Tryd.lays197_ren.g 4) ((List.range 16).flatMap fun i => [Value.int .u8 (Lib.accLo i), Value.int .u8 (Lib.accHi i)]).toArray
  { w0 with heap := h2 }
theorem laid_met (os : Os) : laidMet Tryd.prog Rows.glyphNamesUptoRow.laid ((laidWorld os).forCall (fun _ _ => 0) ⟨#[], #[.string ⟨#[]⟩, .slice none 0 0], []⟩).memory :=
  laidMet_of_run' 8 (by kernel_rfl) (by kernel_rfl)
theorem tabs {W : World} (h : laidMet Tryd.prog Rows.glyphNamesUptoRow.laid W) : Lm.Tabs W :=
  utf8Tabs_of_reads (ρ := Tryd.lays197_ren) { Tryd.lays197 with } ⟨by kernel_rfl, by kernel_rfl, by kernel_rfl, by kernel_rfl, by kernel_rfl, by kernel_rfl, by kernel_rfl⟩
    (Lib.laidMet.reads h (show ("unicode/utf8.first", Lib.firstData) ∈ Rows.glyphNamesUptoRow.laid from by
      rw [show Lib.firstData = Rows.laid_unicode_utf8_first from by kernel_rfl]
      exact .tail _ (.head _)))
    (Lib.laidMet.reads h (show ("unicode/utf8.acceptRanges", Lib.acceptData) ∈ Rows.glyphNamesUptoRow.laid from by
      rw [show Lib.acceptData = Rows.laid_unicode_utf8_acceptRanges from by kernel_rfl]
      exact .head _))
theorem reads (os : Os) {H : Type} (enc : TypeId × Value → H) : ∃ places, DataW.whole enc Tryd.prog ((laidWorld os).forCall (fun _ _ => 0) ⟨#[], #[.string ⟨#[]⟩, .slice none 0 0], []⟩).memory Tryd.f4.params.toList Rows.glyphNamesSpec.vars false (#[.string ⟨#[]⟩, .slice none 0 0] : Array Value).toList 8 = some ([.lit (.string []), .nil], [], places) :=
  ⟨[], by kernel_rfl⟩
set_option linter.unusedVariables false in
set_option maxRecDepth 100000 in
theorem lifted (os : Os) (started : os.Started) (H : Type) (enc : TypeId × Value → H) (F : Stop.Interp) :
    ReturnsInHanded {} Tryd.checked os 4 .any ((Rows.OpenSpec.upto Rows.glyphNamesSpec).preRow enc Tryd.prog Tryd.f4 Rows.glyphNamesUptoRow.domain false Rows.glyphNamesUptoRow.laid) (((Rows.OpenSpec.upto Rows.glyphNamesSpec).at F).post enc Tryd.prog Tryd.f4 false true false false) := by
  obtain ⟨places, hx⟩ := reads os enc
  refine returnsInHanded_of_row (C := Tryd.checked) (s := (Rows.OpenSpec.upto Rows.glyphNamesSpec)) own started (by kernel_rfl) Tryd.func4
    (witness_row_at (enc := enc) (C := Tryd.checked) false (laidWorld os) #[.string ⟨#[]⟩, .slice none 0 0] rfl (by kernel_rfl) (by kernel_rfl) (by kernel_rfl)
      (OpenSpec.preRow_of_cond 8 hx (by kernel_rfl) (fun k hk => by cases hk; kernel_rfl) (by kernel_rfl) (laid_met os))) ?_
  intro W base args ds gs before hval0 hW hcnd0 hcond hsz0 hL hj2 hj3
  have hTabs : Lm.Tabs W := tabs hL
  have hval : ∀ (j : Nat) t v, Tryd.f4.params[j]? = some t → args[j]? = some v → Value.okWide Tryd.prog W .any base t v := hval0
  have hW' := hW
  obtain ⟨p, q, hA0, hV, rfl, hfz, hnd⟩ := hW
  have hA : DataW.TrodAll enc Tryd.prog W 0 (fun _ => true) true Tryd.f4.params.toList args.toList ds p := hA0
  have hsz : (DataW.weightsEach Tryd.prog (Tryd.f4.params.toList ++ Rows.glyphNamesSpec.plain.varTypes Tryd.prog) (ds ++ gs)).all (· ≤ reachBytes) = true := hsz0
  rw [Tryd.params4] at hA hval hsz
  obtain ⟨v0, vs0, d0, ds0, p0, q0, hargs, rfl, rfl, h0, r0⟩ := trodAll_cons hA
  obtain ⟨v1, vs1, d1, ds1, p1, q1, rfl, rfl, rfl, h1, r1⟩ := trodAll_cons r0
  obtain ⟨rfl, rfl, rfl⟩ := trodAll_nil r1
  obtain rfl : args = #[v0, v1] := by cases args; simp_all
  obtain ⟨rfl, rfl⟩ := trodVars_none hV
  obtain ⟨a0, rfl, rfl, rfl, w0⟩ := open_string Tryd.underlying9 (hval 0 9 v0 rfl rfl) h0
  obtain ⟨a1, len1, cap1, rfl⟩ := okWide_slice Tryd.underlying37 (hval 1 37 v1 rfl rfl)
  have k1 := h1
  have lt1 : ∀ x ∈ p1, x.block < W.heap.size := by obtain ⟨m, hm⟩ := k1; exact DataW.trod_lt m _ _ _ hm
  obtain ⟨z1, w1, b1, c1⟩ : ∃ ss, Lm.Strs W (.slice a1 len1 cap1) ss ∧ (Lm.jpre ss).length ≤ 70368744177664 ∧ ss.length ≤ 1099511627776 := by
    have hk := hcond Rows.uptoSmall rfl
    have hbulk : Rows.uptoBulkAll ([.lit (.string a0.data.toList), d1] : List (DataW H)) ≤ 1048576 := by
      have h := of_decide_eq_true hk
      simpa only [List.append_nil] using h
    simp only [Rows.uptoBulkAll] at hbulk
    obtain ⟨fuel, hf⟩ := h1
    have hf' : DataW.trod enc Tryd.prog W 0 (fun _ => true) true fuel 37 [.slice a1 len1 cap1] = some (d1, p1) := by simpa [Value.cells] using hf
    rcases open_strings Tryd.underlying37 Tryd.underlying9 (by kernel_rfl) hf' with ⟨hcs, _⟩ | ⟨x, l, c, ss, hcs, _, hl, hm, hz, hx, hcell, _⟩
    · obtain ⟨rfl, rfl, rfl⟩ : a1 = none ∧ len1 = 0 ∧ cap1 = 0 := by simpa using hcs
      exact ⟨[], ⟨none, 0, rfl, Nat.le_refl _, by omega, rfl, .inl rfl⟩, by simp [Lm.jpre], by simp⟩
    · obtain ⟨rfl, rfl, rfl⟩ : a1 = some x ∧ len1 = l ∧ cap1 = c := by simpa using hcs
      have hz' : ss.length = cap1 := by simpa using hz
      have hx1 : d1 = .slice (strs (ss.take len1)) (strs (ss.drop len1)) := congrArg Prod.fst hx
      have hbk : (Lm.jpre (ss.take len1)).length + (ss.take len1).length ≤ 2 * Rows.uptoBulkAll (strs (ss.take len1) : List (DataW H)) := Lm.bulk_strs _
      rw [hx1] at hbulk
      simp only [Rows.uptoBulk] at hbulk
      refine ⟨ss.take len1, Lm.strs_open hl hm hz' hcell, by omega, by omega⟩
  clear hA0 hval0
  refine (Lm.glyphnames_any W hTabs a0 (.slice a1 len1 cap1) z1 w1 b1 c1).mono fun e W' ⟨he, bel⟩ => ?_
  subst he
  exact ⟨_, rfl, _, _, _, [], _, [], hW', trodAll_mk1 (shut_bool Tryd.underlying4 _), (trodAll_cons_mk (shut_string Tryd.underlying9 w0) (trodAll_cons_mk (Below.trod laidOut (by kernel_rfl) (of_decide_eq_true (by kernel_rfl)) k1 bel lt1) trodAll_mk0)), rfl, bel.frame _, fun h => by cases h⟩
theorem said : Rows.GlyphNamesUptoSaid :=
  OpenClaim.holds_of_cond 4 Tryd.f4 rfl rfl rfl rfl rfl rfl rfl ⟨rfl, rfl, rfl, rfl, rfl⟩ rfl rfl rfl rfl rfl (by kernel_rfl) Tryd.func4 (by kernel_rfl)
    (of_decide_eq_true (by kernel_rfl)) (by unfold Func.isWrapper; first | (rw [if_pos (by decide +kernel)]; kernel_rfl) | (rw [if_neg (by decide +kernel)]; exact ⟨rfl, rfl⟩))
    (fun os started H enc _ F => by rw [OpenClaim.pre_eq_preRow]; exact lifted os started H enc F)
theorem plain (f : FuncId) (fn : Func) (hf : Tryd.pinned.checked.prog.funcNamed "rafter/rafterlaw04.GlyphNames" = some f) (hfn : Tryd.pinned.checked.prog.funcs[f]? = some fn) :
    false = Tryd.pinned.checked.prog.looks [] ∧ ∀ (j : Nat) t, fn.params[j]? = some t → Tryd.pinned.checked.prog.wantsStandIn t = false := by
  obtain rfl : f = 4 := Option.some.inj ((show Tryd.prog.funcNamed "rafter/rafterlaw04.GlyphNames" = some 4 by kernel_rfl).symm.trans hf) |>.symm
  obtain rfl : fn = Tryd.f4 := (Option.some.inj (Tryd.func4.symm.trans hfn)).symm
  refine ⟨by kernel_rfl, fun j t ht => ?_⟩
  rw [Tryd.params4] at ht
  have hm := Array.mem_of_getElem? ht
  simp at hm
  rcases hm with rfl | rfl
  · exact (show Tryd.prog.wantsStandIn 9 = false by kernel_rfl)
  · exact (show Tryd.prog.wantsStandIn 37 = false by kernel_rfl)
theorem card : Rows.GlyphNamesUptoCardSaid :=
  Claim7.holds_tied_plain_at .later [] _ _ _ _ said (fun _ h => by cases h) (by kernel_rfl) (fun _ h => by cases h) glyphNamesUpto_row_tie rfl ⟨rfl, rfl⟩ (by kernel_rfl) rfl plain (by kernel_rfl)
end glyphNamesLaw
theorem glyphNames_card : Rows.GlyphNamesUptoCardSaid := glyphNamesLaw.card
#print axioms glyphNames_card
end Go.Proofs.YtgfglefgpgckiaaDoor

