/-
  Regions as Inv4 has them, in which calls may also write single blocks that stood already (what is lent). No function is named here.
-/
import Derived.Test.YtjhhjefobbhdlaaInv4
import Derived.Test.YtjhhjefobbhdlaaLend
namespace Go.Proofs.Ytjhhjefobbhdlaa
namespace Lm
open Go Go.RowKit

/-- Limbs in memory stay. -/
structure Ru (w w' : World) : Prop where
  size : w.heap.size ≤ w'.heap.size
  ints : ∀ (p : Addr) (z : Int), w.cell? p = some (.int .u32 z) → w'.cell? p = some (.int .u32 z)
  rows : ∀ (g : Nat) (cs : Array Value), w.heap[g]? = some (.cells cs 51 (0, 0)) → w'.heap[g]? = some (.cells cs 51 (0, 0))

theorem Ru.of_rl {w w' : World} (h : Rl w w') : Ru w w' := ⟨h.size, fun p z => h.ints p .u32 z, fun g cs => h.rows g cs _ (.inl rfl)⟩
theorem Ru.of_below {w w' : World} (h : Below w.heap.size w w') : Ru w w' := Ru.of_rl (Rl.of_below h)
theorem Ru.refl (w : World) : Ru w w := ⟨Nat.le_refl _, fun _ _ h => h, fun _ _ h => h⟩
theorem Ru.trans {w w' w'' : World} (h : Ru w w') (h' : Ru w' w'') : Ru w w'' := ⟨Nat.le_trans h.size h'.size, fun p z e => h'.ints p z (h.ints p z e), fun g cs e => h'.rows g cs (h.rows g cs e)⟩
theorem Sl.ru {w w' : World} {v : Value} {zs : List Int} (h : Sl w v zs) (hr : Ru w w') : Sl w' v zs := by
  obtain ⟨ao, cap, rfl, h1, h2, h3, h4⟩ := h
  refine ⟨ao, cap, rfl, h1, h2, h3, ?_⟩
  rcases h4 with h4 | ⟨b, off, rfl, hc⟩
  · exact .inl h4
  · exact .inr ⟨b, off, rfl, fun i hi => hr.ints _ _ (hc i hi)⟩
/-- A block without limbs is written. -/
theorem Ru.of_touch {w w' : World} {m : Nat} {cs : Array Value} {T : TypeId} (h : Touch w w' m) (hm : w.heap[m]? = some (.cells cs T (0, 0))) (hT : T ≠ 51) (hc : ∀ (i : Nat) (z : Int), cs[i]? ≠ some (.int .u32 z)) : Ru w w' := by
  refine ⟨h.size, fun p z e => ?_, fun g cs' e => ?_⟩
  · by_cases hp : p.block = m
    · exfalso
      obtain ⟨b, o, s⟩ := p
      simp only at hp
      subst hp
      simp only [World.cell?, hm] at e
      cases s with
      | none => exact hc o z (by simpa using e)
      | some s => simp at e
    · rw [World.cell?_of_block (w := w) (h.other p.block (lt_of_cell' e) hp)]
      exact e
  · by_cases hg : g = m
    · exfalso
      subst hg
      rw [hm] at e
      injection e with e
      injection e with _ e
      exact hT e
    · exact (h.other g (lt_of_heap e) hg).trans e

def Mono5 (p : Says) : Prop := ∀ v w w', Ru w w' → p v w → p v w'
def Mono5s : List Says → Prop
  | [] => True
  | p :: ps => Mono5 p ∧ Mono5s ps
theorem Mono5s.at {ps : List Says} (h : Mono5s ps) (j : Nat) : Mono5 (ps.getD j (fun _ _ => True)) := by
  induction ps generalizing j with
  | nil => intro v w w' _ _; simp
  | cons p ps ih =>
    cases j with
    | zero => simpa using h.1
    | succ j => simpa using ih h.2 j

/-- A block that stood already, the operation that writes it, and what is said behind it. -/
structure Xb where
  i : Nat
  m : Nat
  S : Says

/-- What is asked of such blocks. -/
structure XOk (bx : List Bx) (Xt : List Xb) (w0 : World) : Prop where
  old : ∀ q ∈ Xt, q.m < w0.heap.size
  box : ∀ q ∈ Xt, ∀ b ∈ bx, b.ia = none → b.g0 ≠ q.m
  one : ∀ q ∈ Xt, ∀ q' ∈ Xt, q.i = q'.i → q = q'
  far : ∀ q ∈ Xt, ∀ q' ∈ Xt, q.m = q'.m → q = q'
  pres : ∀ q ∈ Xt, ∀ v w w', w'.heap[q.m]? = w.heap[q.m]? → Ru w w' → q.S v w → q.S v w'

structure But5 (bx : List Bx) (Xt : List Xb) (w0 w : World) : Prop where
  os : w.os = w0.os
  tape : w.tape = w0.tape
  output : w.output = w0.output
  size : w0.heap.size ≤ w.heap.size
  keep : ∀ m, m < w0.heap.size → (∀ b ∈ bx, b.ia = none → b.g0 ≠ m) → (∀ q ∈ Xt, q.m ≠ m) → w.heap[m]? = w0.heap[m]?

theorem But5.below {bx : List Bx} {Xt : List Xb} {w0 w : World} (h : But5 bx Xt w0 w) {B : Nat} (hB : B ≤ w0.heap.size) (ho : ∀ b ∈ bx, b.ia = none → B ≤ b.g0) (hx : ∀ q ∈ Xt, B ≤ q.m) : Below B w0 w :=
  ⟨h.os, h.tape, h.output, h.size, fun k hk => h.keep k (by omega) (fun b hb hn => by have := ho b hb hn; omega) (fun q hq => by have := hx q hq; omega)⟩

/-- The blocks that are written: as they were, ahead of it; as is said, behind it. -/
def Xs (Ds : List (Option Nat)) (Xt : List Xb) (w0 : World) (l : Array Bool) (a : Act) (w : World) : Prop := ∀ q ∈ Xt, (flag l q.i = false → w.heap[q.m]? = w0.heap[q.m]?) ∧ (flag l q.i = true → q.S (rd Ds a q.i) w)

def Mid5 (n : Nat) (Ds : List (Option Nat)) (Ps : List Says) (bx : List Bx) (Xt : List Xb) (a0 : Act) (w0 : World) (l : Array Bool) (a : Act) (w : World) : Prop :=
  l.size = Ds.length ∧ a.tmps.size = n ∧ a.defers = a0.defers ∧ But5 bx Xt w0 w ∧ Ru w0 w ∧ Rest4 Ds a0 a ∧ Slots Ds a0 l a ∧ Xs Ds Xt w0 l a w ∧ (∀ j, flag l j = true → Ps.getD j (fun _ _ => True) (rd Ds a j) w) ∧ ∃ gs, Boxes bx w0 l a w gs

/-- The obligation of one operation. -/
inductive Duty5 (P : Program) (n : Nat) (Ds : List (Option Nat)) (Ps : List Says) (bx : List Bx) (Xt : List Xb) (Wt : List (Nat × Nat)) (a0 : Act) (w0 : World) (i : Nat) (o : Oper) (p : Says) : Prop
  | norm (d : Nat) (hd : o.dst = some d) (hD : Ds.getD i none = some d) (hx : ∀ q ∈ Xt, q.i ≠ i) (hb : (bx.all fun b => b.ia != some i && b.st.all fun q => q.1 != i) = true)
      (h : ∀ a w, a.tmps.size = n → But5 bx Xt w0 w → Ru w0 w → Rest4 Ds a0 a → Deps4 Ds Ps o a w → Olds bx i w → (∀ j d, Wt.contains (j, i) = true → Ds.getD j none = some d → a.eval (.tmp d) = a0.eval (.tmp d)) →
        match o.guard with
        | none => Does P o a.eval w fun v w' => Below w.heap.size w w' ∧ p v w'
        | some (g, b) => (∃ dg, Ds.getD g none = some dg) ∧ (rd Ds a g = .bool b → Does P o a.eval w fun v w' => Below w.heap.size w w' ∧ p v w') ∧ (rd Ds a g ≠ .bool b → p undef w))
  | touch (q : Xb) (hq : q ∈ Xt) (hi : q.i = i) (d : Nat) (hd : o.dst = some d) (hD : Ds.getD i none = some d) (hg : o.guard = none) (hb : (bx.all fun b => b.ia != some i && b.st.all fun q => q.1 != i) = true)
      (h : ∀ a w, a.tmps.size = n → But5 bx Xt w0 w → Ru w0 w → Rest4 Ds a0 a → Deps4 Ds Ps o a w → Olds bx i w → (∀ j d, Wt.contains (j, i) = true → Ds.getD j none = some d → a.eval (.tmp d) = a0.eval (.tmp d)) → w.heap[q.m]? = w0.heap[q.m]? →
        Does P o a.eval w fun v w' => Touch w w' q.m ∧ Ru w w' ∧ p v w' ∧ q.S v w')
  | alloc (k : Nat) (b : Bx) (hk : bx[k]? = some b) (hi : b.ia = some i) (ho : (o.op = .alloc b.τ.T ∧ b.v0 = b.τ.zero) ∨ ∃ x, o.op = .box b.τ.T x ∧ (∃ cs, b.τ.Cs b.v0 cs) ∧ ∀ a, Rest4 Ds a0 a → a.eval x = b.v0) (hd : o.dst = some b.d) (hg : o.guard = none) (hp : p = fun _ _ => True) (hx : ∀ q ∈ Xt, q.i ≠ i) (hu : (bx.zipIdx.all fun q => q.2 == k || (q.1.ia != some i)) = true) (hs : (bx.all fun b => b.st.all fun q => q.1 != i && q.2.2 != i) = true)
  | store (k : Nat) (b : Bx) (src isrc : Nat) (hk : bx[k]? = some b) (hi : b.st = some (i, src, isrc)) (ho : o.op = .store b.τ.T (.tmp b.d) (.tmp src)) (hd : o.dst = none) (hD : Ds.getD i none = none) (hg : o.guard = none) (hp : p = fun _ _ => True) (hx : ∀ q ∈ Xt, q.i ≠ i) (ha : ∀ ia, b.ia = some ia → (o.after.toList.any fun e => e.on == ia && Region.binds .any e) = true) (hs : (o.after.toList.any fun e => e.on == isrc && Region.binds .any e) = true) (hu : (bx.zipIdx.all fun q => q.2 == k || (q.1.st.all fun q => q.1 != i)) = true) (hn : (bx.all fun b => b.ia != some i && b.st.all fun q => q.2.2 != i) = true)
      (hv : ∀ v w, Ps.getD isrc (fun _ _ => True) v w → ∃ cs, b.τ.Cs v cs)

def Duties5 (P : Program) (n : Nat) (Ds : List (Option Nat)) (Ps : List Says) (bx : List Bx) (Xt : List Xb) (Wt : List (Nat × Nat)) (a0 : Act) (w0 : World) : Nat → List Oper → List Says → Prop
  | _, [], [] => True
  | i, o :: os, p :: ps => Duty5 P n Ds Ps bx Xt Wt a0 w0 i o p ∧ Duties5 P n Ds Ps bx Xt Wt a0 w0 (i + 1) os ps
  | _, _, _ => False

theorem Duties5.at {P : Program} {n : Nat} {Ds : List (Option Nat)} {Ps : List Says} {bx : List Bx} {Xt : List Xb} {Wt : List (Nat × Nat)} {a0 : Act} {w0 : World} : ∀ {os : List Oper} {ps : List Says} {m : Nat}, Duties5 P n Ds Ps bx Xt Wt a0 w0 m os ps → ∀ i o, os[i]? = some o → Duty5 P n Ds Ps bx Xt Wt a0 w0 (m + i) o (ps.getD i fun _ _ => True)
  | [], [], _, _ => fun i o h => by simp at h
  | o :: os, p :: ps, m, h => fun i o' ho => by
    obtain ⟨h1, h2⟩ := h
    cases i with
    | zero =>
      simp only [List.getElem?_cons_zero, Option.some.injEq] at ho
      subst ho
      simpa using h1
    | succ i =>
      have := Duties5.at h2 i o' (by simpa using ho)
      have e : m + 1 + i = m + (i + 1) := by omega
      rw [e] at this
      simpa using this
  | [], _ :: _, _, h => h.elim
  | _ :: _, [], _, h => h.elim

section
variable {P : Program} {n : Nat} {Ds : List (Option Nat)} {Ps : List Says} {bx : List Bx} {Xt : List Xb} {a0 : Act} {w0 : World} {l : Array Bool} {a : Act} {w w' : World} {i d : Nat} {v : Value}

theorem BoxV.touch {τ : BoxTy} {w w' : World} {g m : Nat} {v : Value} (h : BoxV τ w g v) (ht : Touch w w' m) (hn : g ≠ m) : BoxV τ w' g v := by
  obtain ⟨cs, hc, h⟩ := h
  exact ⟨cs, hc, (ht.other g (lt_of_heap h) hn).trans h⟩
theorem Xs.next (h : Xs Ds Xt w0 l a w) (hX : XOk bx Xt w0) (_hs : w0.heap.size ≤ w.heap.size) (hI : Inj Ds) (hi : Ds.getD i none = some d) (v : Value) (hx : ∀ q ∈ Xt, q.i ≠ i) (hk : ∀ m, m < w0.heap.size → w'.heap[m]? = w.heap[m]?) (hu : Ru w w') : Xs Ds Xt w0 (l.setIfInBounds i true) (a.put (some d) v) w' := by
  intro q hq
  have hm := hk q.m (hX.old q hq)
  refine ⟨fun hf => ?_, fun hf => ?_⟩
  · rw [flag_set_ne (hx q hq)] at hf
    rw [hm, (h q hq).1 hf]
  · rw [flag_set_ne (hx q hq)] at hf
    rw [rd_put_ne hI hi (hx q hq)]
    exact hX.pres q hq _ _ _ hm hu ((h q hq).2 hf)
theorem Xs.touch {q : Xb} (h : Xs Ds Xt w0 l a w) (hX : XOk bx Xt w0) (hl : l.size = Ds.length) (hn : a.tmps.size = n) (hs0 : w0.heap.size ≤ w.heap.size) (hI : Inj Ds) (hi : Ds.getD i none = some d) (hdn : d < n) (v : Value) (hq : q ∈ Xt) (hqi : q.i = i) (ht : Touch w w' q.m) (hu : Ru w w') (hs : q.S v w') : Xs Ds Xt w0 (l.setIfInBounds i true) (a.put (some d) v) w' := by
  intro r hr
  by_cases e : r = q
  · subst e
    rw [hqi]
    refine ⟨fun hf => ?_, fun _ => ?_⟩
    · rw [flag_set_same (by rw [hl]; exact lt_of_getD hi)] at hf
      cases hf
    · have : rd Ds (a.put (some d) v) i = v := by
        unfold rd
        rw [hi]
        exact eval_put_same (by omega)
      rw [this]
      exact hs
  · have hri : r.i ≠ i := fun e' => e (hX.one r hr q hq (e'.trans hqi.symm))
    have hrm : r.m ≠ q.m := fun e' => e (hX.far r hr q hq e')
    have hm := ht.other r.m (Nat.lt_of_lt_of_le (hX.old r hr) hs0) hrm
    refine ⟨fun hf => ?_, fun hf => ?_⟩
    · rw [flag_set_ne hri] at hf
      rw [hm, (h r hr).1 hf]
    · rw [flag_set_ne hri] at hf
      rw [rd_put_ne hI hi hri]
      exact hX.pres r hr _ _ _ hm hu ((h r hr).2 hf)

/-- An operation that makes and fills no struct has run. -/
theorem Mid5.norm (h : Mid5 n Ds Ps bx Xt a0 w0 l a w) (hF : Fits n Ds bx) (hI : Inj Ds) (hM : Mono5s Ps) (hnd : flag l i = false) (hX : XOk bx Xt w0) (hx : ∀ q ∈ Xt, q.i ≠ i) (hi : Ds.getD i none = some d) (hb : (bx.all fun b => b.ia != some i && b.st.all fun q => q.1 != i) = true) (hw : Below w.heap.size w w') (hp : Ps.getD i (fun _ _ => True) v w') :
    Mid5 n Ds Ps bx Xt a0 w0 (l.setIfInBounds i true) (a.put (some d) v) w' := by
  obtain ⟨h1, h2, h3, h4, hr, h5, hS, hXs, h6, gs, h7, h8⟩ := h
  have hdn : d < n := hF.1 i d hi
  have hmade : ∀ b ∈ bx, made (l.setIfInBounds i true) b = made l b := by
    intro b hm
    have hbb := List.all_eq_true.1 hb b hm
    simp only [Bool.and_eq_true, bne_iff_ne] at hbb
    unfold made
    cases hia : b.ia with
    | none => rfl
    | some ia => exact flag_set_ne (fun e => hbb.1 (by rw [hia, e]))
  refine ⟨by simp [h1], by rw [put_tmps]; simp [h2], h3, ⟨hw.os.trans h4.os, hw.tape.trans h4.tape, hw.output.trans h4.output, Nat.le_trans h4.size hw.size, fun m hm ho hx => (hw.block m (Nat.lt_of_lt_of_le hm h4.size)).trans (h4.keep m hm ho hx)⟩, hr.trans (Ru.of_below hw), rest_put h5 hi, hS.put h1 hI hi v, hXs.next hX h4.size hI hi v hx (fun m hm => hw.block m (Nat.lt_of_lt_of_le hm h4.size)) (Ru.of_below hw), fun j hj => ?_, gs, fun k b hk hf => ?_, fun k k' b b' hk hk' hne hf hf' => ?_⟩
  · rcases flag_set hj with rfl | ⟨hne, hj⟩
    · have : rd Ds (a.put (some d) v) j = v := by
        unfold rd
        rw [hi]
        exact eval_put_same (by omega)
      rw [this]
      exact hp
    · rw [rd_put_ne hI hi hne]
      exact hM.at j _ _ _ (Ru.of_below hw) (h6 j hj)
  · have hm := List.mem_of_getElem? hk
    have hbb := List.all_eq_true.1 hb b hm
    simp only [Bool.and_eq_true, bne_iff_ne] at hbb
    obtain ⟨hb1, hb2⟩ := hbb
    obtain ⟨f1, f2, f3⟩ := hF.2 b hm
    rw [hmade b hm] at hf
    obtain ⟨e1, e2, e2', u, e3, e4, e5⟩ := h7 k b hk hf
    refine ⟨?_, e2, e2', u, e3.below hw, fun hs => e4 ?_, fun q hq hs => ?_⟩
    · rw [eval_put_ne, e1]
      rintro rfl
      cases hia : b.ia with
      | none =>
        have := f2 hia
        rw [contains_of hi] at this
        cases this
      | some ia => exact hb1 (by rw [hia, hI _ _ _ (f1 ia hia).1 hi])
    · unfold filled at hs ⊢
      cases hst : b.st with
      | none => rfl
      | some q =>
        rw [hst] at hs hb2
        simp only [Option.all_some, bne_iff_ne] at hb2
        simp only at hs ⊢
        rwa [flag_set_ne hb2] at hs
    · rw [hq] at hb2
      simp only [Option.all_some, bne_iff_ne] at hb2
      rw [flag_set_ne hb2] at hs
      obtain ⟨e6, e7⟩ := e5 q hq hs
      have hne : q.2.2 ≠ i := by
        rintro rfl
        rw [hnd] at e6
        cases e6
      refine ⟨by rw [flag_set_ne hne]; exact e6, ?_⟩
      rw [eval_put_ne, e7]
      intro ee
      have := (f3 q hq).2.1
      rw [← ee] at this
      exact hne (hI _ _ _ this hi)
  · rw [hmade b (List.mem_of_getElem? hk)] at hf
    rw [hmade b' (List.mem_of_getElem? hk')] at hf'
    exact h8 k k' b b' hk hk' hne hf hf'

/-- An operation that writes a block that stood already has run. -/
theorem Mid5.touch {q : Xb} (h : Mid5 n Ds Ps bx Xt a0 w0 l a w) (hF : Fits n Ds bx) (hI : Inj Ds) (hM : Mono5s Ps) (hnd : flag l i = false) (hX : XOk bx Xt w0) (hq : q ∈ Xt) (hqi : q.i = i) (hi : Ds.getD i none = some d) (hb : (bx.all fun b => b.ia != some i && b.st.all fun q => q.1 != i) = true) (ht : Touch w w' q.m) (hu : Ru w w') (hp : Ps.getD i (fun _ _ => True) v w') (hs : q.S v w') :
    Mid5 n Ds Ps bx Xt a0 w0 (l.setIfInBounds i true) (a.put (some d) v) w' := by
  obtain ⟨h1, h2, h3, h4, hr, h5, hS, hXs, h6, gs, h7, h8⟩ := h
  have hdn : d < n := hF.1 i d hi
  have hmade : ∀ b ∈ bx, made (l.setIfInBounds i true) b = made l b := by
    intro b hm
    have hbb := List.all_eq_true.1 hb b hm
    simp only [Bool.and_eq_true, bne_iff_ne] at hbb
    unfold made
    cases hia : b.ia with
    | none => rfl
    | some ia => exact flag_set_ne (fun e => hbb.1 (by rw [hia, e]))
  refine ⟨by simp [h1], by rw [put_tmps]; simp [h2], h3, ⟨ht.os.trans h4.os, ht.tape.trans h4.tape, ht.output.trans h4.output, Nat.le_trans h4.size ht.size, fun m hm ho hx => (ht.other m (Nat.lt_of_lt_of_le hm h4.size) (fun e => hx q hq e.symm)).trans (h4.keep m hm ho hx)⟩, hr.trans hu, rest_put h5 hi, hS.put h1 hI hi v, hXs.touch hX h1 h2 h4.size hI hi (hF.1 i d hi) v hq hqi ht hu hs, fun j hj => ?_, gs, fun k b hk hf => ?_, fun k k' b b' hk hk' hne hf hf' => ?_⟩
  · rcases flag_set hj with rfl | ⟨hne, hj⟩
    · have : rd Ds (a.put (some d) v) j = v := by
        unfold rd
        rw [hi]
        exact eval_put_same (by omega)
      rw [this]
      exact hp
    · rw [rd_put_ne hI hi hne]
      exact hM.at j _ _ _ hu (h6 j hj)
  · have hm := List.mem_of_getElem? hk
    have hbb := List.all_eq_true.1 hb b hm
    simp only [Bool.and_eq_true, bne_iff_ne] at hbb
    obtain ⟨hb1, hb2⟩ := hbb
    obtain ⟨f1, f2, f3⟩ := hF.2 b hm
    rw [hmade b hm] at hf
    obtain ⟨e1, e2, e2', u, e3, e4, e5⟩ := h7 k b hk hf
    have hgm : gs k ≠ q.m := by
      intro e
      cases hia' : b.ia with
      | none => exact hX.box q hq b hm hia' ((e2 hia').symm.trans e)
      | some ia =>
        have h1 := e2' (by rw [hia']; simp)
        have h2 := hX.old q hq
        omega
    refine ⟨?_, e2, e2', u, e3.touch ht hgm, fun hs => e4 ?_, fun q hq hs => ?_⟩
    · rw [eval_put_ne, e1]
      rintro rfl
      cases hia : b.ia with
      | none =>
        have := f2 hia
        rw [contains_of hi] at this
        cases this
      | some ia => exact hb1 (by rw [hia, hI _ _ _ (f1 ia hia).1 hi])
    · unfold filled at hs ⊢
      cases hst : b.st with
      | none => rfl
      | some q =>
        rw [hst] at hs hb2
        simp only [Option.all_some, bne_iff_ne] at hb2
        simp only at hs ⊢
        rwa [flag_set_ne hb2] at hs
    · rw [hq] at hb2
      simp only [Option.all_some, bne_iff_ne] at hb2
      rw [flag_set_ne hb2] at hs
      obtain ⟨e6, e7⟩ := e5 q hq hs
      have hne : q.2.2 ≠ i := by
        rintro rfl
        rw [hnd] at e6
        cases e6
      refine ⟨by rw [flag_set_ne hne]; exact e6, ?_⟩
      rw [eval_put_ne, e7]
      intro ee
      have := (f3 q hq).2.1
      rw [← ee] at this
      exact hne (hI _ _ _ this hi)
  · rw [hmade b (List.mem_of_getElem? hk)] at hf
    rw [hmade b' (List.mem_of_getElem? hk')] at hf'
    exact h8 k k' b b' hk hk' hne hf hf'

theorem Mid5.alloc {k : Nat} {b : Bx} {cs : Array Value} (h : Mid5 n Ds Ps bx Xt a0 w0 l a w) (hF : Fits n Ds bx) (hI : Inj Ds) (hM : Mono5s Ps) (_hnd : flag l i = false) (hX : XOk bx Xt w0) (hx : ∀ q ∈ Xt, q.i ≠ i) (hk : bx[k]? = some b) (hia : b.ia = some i) (hu : (bx.zipIdx.all fun q => q.2 == k || (q.1.ia != some i)) = true) (hs : (bx.all fun b => b.st.all fun q => q.1 != i && q.2.2 != i) = true) (hp : ∀ v w, Ps.getD i (fun _ _ => True) v w) (hc : b.τ.Cs b.v0 cs) (hns : ∀ q, b.st = some q → flag l q.1 = false) :
    Mid5 n Ds Ps bx Xt a0 w0 (l.setIfInBounds i true) (a.put (some b.d) (.pointer (some ⟨w.heap.size, 0, none⟩))) (w.alloc (.cells cs b.τ.T)) := by
  obtain ⟨h1, h2, h3, h4, hr, h5, hS, hXs, h6, gs, h7, h8⟩ := h
  have hm := List.mem_of_getElem? hk
  obtain ⟨f1, f3⟩ := (hF.2 b hm).1 i hia
  have hdn : b.d < n := hF.1 i b.d f1
  have hw : Below w.heap.size w (w.alloc (.cells cs b.τ.T)) := (Below.refl _ _).alloc (Nat.le_refl _) _
  have hs' : ∀ c ∈ bx, (c.st.all fun q => q.1 != i) = true ∧ ∀ q, c.st = some q → q.2.2 ≠ i := by
    intro c hc'
    have := List.all_eq_true.1 hs c hc'
    cases hst : c.st with
    | none => exact ⟨rfl, fun q hq => by cases hq⟩
    | some q =>
      rw [hst] at this
      simp only [Option.all_some, Bool.and_eq_true, bne_iff_ne] at this
      exact ⟨by simpa using this.1, fun q' hq => by obtain rfl := Option.some.inj hq; exact this.2⟩
  have hmade : ∀ q c, q ≠ k → bx[q]? = some c → made (l.setIfInBounds i true) c = made l c := by
    intro q c hq hc'
    have := ne_of_uniq (f := fun c => c.ia != some i) hu hc' hq
    simp only [bne_iff_ne] at this
    unfold made
    cases hia' : c.ia with
    | none => rfl
    | some ia => exact flag_set_ne (fun e => this (by rw [hia', e]))
  refine ⟨by simp [h1], by rw [put_tmps]; simp [h2], h3, ⟨hw.os.trans h4.os, hw.tape.trans h4.tape, hw.output.trans h4.output, Nat.le_trans h4.size hw.size, fun m hm ho hx => (hw.block m (Nat.lt_of_lt_of_le hm h4.size)).trans (h4.keep m hm ho hx)⟩, hr.trans (Ru.of_below hw), rest_put h5 f1, hS.put h1 hI f1 _, hXs.next hX h4.size hI f1 _ hx (fun m hm => hw.block m (Nat.lt_of_lt_of_le hm h4.size)) (Ru.of_below hw), fun j hj => ?_, fun q => if q = k then w.heap.size else gs q, fun q c hq hf => ?_, fun q q' c c' hq hq' hne hf hf' => ?_⟩
  · rcases flag_set hj with rfl | ⟨hne, hj⟩
    · exact hp _ _
    · rw [rd_put_ne hI f1 hne]
      exact hM.at j _ _ _ (Ru.of_below hw) (h6 j hj)
  · by_cases e : q = k
    · subst e
      rw [hk] at hq
      obtain rfl := Option.some.inj hq
      simp only [if_true]
      refine ⟨eval_put_same (by omega), fun e => (by rw [hia] at e; cases e), fun _ => h4.size, b.v0, ⟨cs, hc, heap_alloc_new _ _⟩, fun _ => rfl, fun q hq hst => ?_⟩
      have hne := (hs' b hm).1
      rw [hq] at hne
      simp only [Option.all_some, bne_iff_ne] at hne
      rw [flag_set_ne hne, hns q hq] at hst
      cases hst
    · simp only [if_neg e]
      have hcm := List.mem_of_getElem? hq
      rw [hmade q c e hq] at hf
      obtain ⟨e1, e2, e2', u, e3, e4, e5⟩ := h7 q c hq hf
      obtain ⟨g1, g2, g3⟩ := hF.2 c hcm
      have hcne := ne_of_uniq (f := fun c => c.ia != some i) hu hq e
      simp only [bne_iff_ne] at hcne
      refine ⟨?_, e2, e2', u, e3.below hw, fun hst => e4 (by rwa [filled_set (hs' c hcm).1] at hst), fun r hr' hst => ?_⟩
      · rw [eval_put_ne, e1]
        intro e'
        cases hia' : c.ia with
        | none =>
          have := g2 hia'
          rw [← e', contains_of f1] at this
          cases this
        | some ia =>
          have := (g1 ia hia').1
          rw [← e'] at this
          exact hcne (by rw [hia', hI _ _ _ this f1])
      · have hne := (hs' c hcm).1
        rw [hr'] at hne
        simp only [Option.all_some, bne_iff_ne] at hne
        rw [flag_set_ne hne] at hst
        obtain ⟨e6, e7⟩ := e5 r hr' hst
        have hne2 := (hs' c hcm).2 r hr'
        refine ⟨by rw [flag_set_ne hne2]; exact e6, ?_⟩
        rw [eval_put_ne, e7]
        intro e'
        have := (g3 r hr').2.1
        rw [← e'] at this
        exact hne2 (hI _ _ _ this f1)
  · have lt : ∀ r c, r ≠ k → bx[r]? = some c → made (l.setIfInBounds i true) c = true → gs r < w.heap.size := by
      intro r c hr hc' hf
      rw [hmade r c hr hc'] at hf
      obtain ⟨_, _, _, u, e3, _⟩ := h7 r c hc' hf
      exact e3.lt
    by_cases e : q = k
    · have e' : q' ≠ k := fun x => hne (e.trans x.symm)
      simp only [if_pos e, if_neg e']
      have := lt q' c' e' hq' hf'
      omega
    · by_cases e' : q' = k
      · simp only [if_neg e, if_pos e']
        have := lt q c e hq hf
        omega
      · simp only [if_neg e, if_neg e']
        rw [hmade q c e hq] at hf
        rw [hmade q' c' e' hq'] at hf'
        exact h8 q q' c c' hq hq' hne hf hf'

theorem Mid5.store {k src isrc : Nat} {b : Bx} {gs : Nat → Nat} (hτ : BoxOk P b.τ) (h1 : l.size = Ds.length) (h2 : a.tmps.size = n) (h3 : a.defers = a0.defers) (h4 : But5 bx Xt w0 w) (hr0 : Ru w0 w) (h5 : Rest4 Ds a0 a) (hS : Slots Ds a0 l a) (hDi : Ds.getD i none = none) (hX : XOk bx Xt w0) (hx : ∀ q ∈ Xt, q.i ≠ i) (hXs : Xs Ds Xt w0 l a w) (h6 : ∀ j, flag l j = true → Ps.getD j (fun _ _ => True) (rd Ds a j) w) (h7 : Boxes bx w0 l a w gs) (hM : Mono5s Ps) (hil : i < l.size) (hk : bx[k]? = some b) (his : b.st = some (i, src, isrc)) (hu : (bx.zipIdx.all fun q => q.2 == k || (q.1.st.all fun q => q.1 != i)) = true) (hn : (bx.all fun b => b.ia != some i && b.st.all fun q => q.2.2 != i) = true) (hp : ∀ v w, Ps.getD i (fun _ _ => True) v w) (hia : made l b = true) (hisrc : flag l isrc = true) (ho : Only w w' (gs k)) (hbv : BoxV b.τ w' (gs k) (a.eval (.tmp src))) :
    Mid5 n Ds Ps bx Xt a0 w0 (l.setIfInBounds i true) a w' := by
  obtain ⟨h7, h8⟩ := h7
  have hm := List.mem_of_getElem? hk
  obtain ⟨e1, e2, e2', u, e3, e4⟩ := h7 k b hk hia
  have hr : Ru w w' := Ru.of_rl (Rl.of_only hτ e3 ho)
  have hn' : ∀ c ∈ bx, made (l.setIfInBounds i true) c = made l c ∧ ∀ q, c.st = some q → q.2.2 ≠ i := by
    intro c hc
    have := List.all_eq_true.1 hn c hc
    simp only [Bool.and_eq_true, bne_iff_ne] at this
    refine ⟨?_, fun q hq => ?_⟩
    · unfold made
      cases hia' : c.ia with
      | none => rfl
      | some ia => exact flag_set_ne (fun e => this.1 (by rw [hia', e]))
    · have h2 := this.2
      rw [hq] at h2
      simpa using h2
  refine ⟨by simp [h1], h2, h3, ⟨ho.os.trans h4.os, ho.tape.trans h4.tape, ho.output.trans h4.output, by rw [ho.size]; exact h4.size, fun m hm' hol hxl => ?_⟩, hr0.trans hr, h5, fun j e hj hf => hS j e hj (by rwa [flag_set_ne (fun e' => by rw [e', hDi] at hj; cases hj)] at hf), fun q hq => ⟨fun hf => ?_, fun hf => ?_⟩, fun j hj => ?_, gs, fun q c hq hf => ?_, fun q q' c c' hq hq' hne hf hf' => ?_⟩
  · rw [ho.other m, h4.keep m hm' hol hxl]
    intro e
    subst e
    cases hia' : b.ia with
    | none => exact hol b hm hia' (e2 hia').symm
    | some ia =>
      have := e2' (by rw [hia']; simp)
      omega
  · rw [flag_set_ne (hx q hq)] at hf
    rw [ho.other q.m, (hXs q hq).1 hf]
    intro e
    cases hia' : b.ia with
    | none => exact hX.box q hq b hm hia' ((e2 hia').symm.trans e.symm)
    | some ia =>
      have h1 := e2' (by rw [hia']; simp)
      have h2 := hX.old q hq
      omega
  · rw [flag_set_ne (hx q hq)] at hf
    refine hX.pres q hq _ _ _ (ho.other q.m ?_) hr ((hXs q hq).2 hf)
    intro e
    cases hia' : b.ia with
    | none => exact hX.box q hq b hm hia' ((e2 hia').symm.trans e.symm)
    | some ia =>
      have h1 := e2' (by rw [hia']; simp)
      have h2 := hX.old q hq
      omega
  · rcases flag_set hj with rfl | ⟨hne, hj⟩
    · exact hp _ _
    · exact hM.at j _ _ _ hr (h6 j hj)
  · have hcm := List.mem_of_getElem? hq
    rw [(hn' c hcm).1] at hf
    obtain ⟨d1, d2, d2', u', d3, d4, d5⟩ := h7 q c hq hf
    by_cases e : q = k
    · subst e
      rw [hk] at hq
      obtain rfl := Option.some.inj hq
      refine ⟨d1, d2, d2', _, hbv, fun hfl => ?_, fun r hr' _ => ?_⟩
      · unfold filled at hfl
        rw [his] at hfl
        simp only [flag_set_same hil] at hfl
        cases hfl
      · rw [his] at hr'
        obtain rfl := Option.some.inj hr'
        exact ⟨by rw [flag_set_ne ((hn' b hm).2 _ his)]; exact hisrc, rfl⟩
    · have hne := ne_of_uniq (f := fun c => c.st.all fun q => q.1 != i) hu hq e
      refine ⟨d1, d2, d2', u', d3.only ho (h8 q k c b hq hk e hf hia), fun hfl => d4 (by rwa [filled_set hne] at hfl), fun r hr' hst => ?_⟩
      rw [hr'] at hne
      simp only [Option.all_some, bne_iff_ne] at hne
      rw [flag_set_ne hne] at hst
      obtain ⟨d6, d7⟩ := d5 r hr' hst
      exact ⟨by rw [flag_set_ne ((hn' c hcm).2 r hr')]; exact d6, d7⟩
  · rw [(hn' c (List.mem_of_getElem? hq)).1] at hf
    rw [(hn' c' (List.mem_of_getElem? hq')).1] at hf'
    exact h8 q q' c c' hq hq' hne hf hf'
end

theorem duty5_step {P : Program} {ops : Array Oper} {Q : Exit → Act → World → Prop} {n : Nat} {Ds : List (Option Nat)} {Ps : List Says} {bx : List Bx} {Xt : List Xb} {Wt : List (Nat × Nat)} {a0 : Act} {w0 : World} {l : Array Bool} {a : Act} {w : World} {i : Nat} {o : Oper} (hlen : Ds.length = ops.size) (hD : Duties5 P n Ds Ps bx Xt Wt a0 w0 0 ops.toList Ps) (hdst : ∀ j o, ops[j]? = some o → o.dst = Ds.getD j none) (hF : Fits n Ds bx) (hI : Inj Ds) (hM : Mono5s Ps) (hX : XOk bx Xt w0) (hτ : ∀ b ∈ bx, BoxOk P b.τ) (ho : ops[i]? = some o) (hnd : flag l i = false) (hearly : ∀ b ∈ bx, ∀ q ia, b.st = some q → b.ia = some ia → flag l q.1 = true → flag l ia = true) (hlateS : ∀ j, Wt.contains (j, i) = true → flag l j = false) (hlate : ∀ b ∈ bx, ∀ q, b.st = some q → b.wt.contains i = true → flag l q.1 = false) (h : Mid5 n Ds Ps bx Xt a0 w0 l a w) (hdeps : ∀ e ∈ o.after, Region.binds .any e = true → flag l e.on = true) :
    wpOp P ops Q i (fun a' w' => Mid5 n Ds Ps bx Xt a0 w0 (l.setIfInBounds i true) a' w') a w := by
  have h' := h
  obtain ⟨h1, h2, h3, h4, hr, h5, hS, hXs, h6, gs, h7⟩ := h
  have hio : ops.toList[i]? = some o := by rw [Array.getElem?_toList]; exact ho
  have hduty := hD.at i o hio
  rw [Nat.zero_add] at hduty
  have hany : ∀ j, (o.after.toList.any fun e => e.on == j && Region.binds .any e) = true → flag l j = true := by
    intro j hj
    obtain ⟨e, he, hj⟩ := List.any_eq_true.1 hj
    simp only [Bool.and_eq_true, beq_iff_eq] at hj
    obtain ⟨rfl, hb⟩ := hj
    exact hdeps e (by simpa using he) hb
  have hil : i < l.size := by
    rw [h1, hlen]
    exact (Array.getElem?_eq_some_iff.1 ho).1
  refine wpOp_step ho (fun K' hK => ?_)
  cases hduty with
  | norm d hd hDi hx hb hduty =>
    have holds : Olds bx i w := by
      intro k b hk hia hwt
      have hmd : made l b = true := by unfold made; rw [hia]
      obtain ⟨_, e2, _, v, e3, e4, _⟩ := h7.1 k b hk hmd
      rw [e2 hia] at e3
      have : filled l b = false := by
        unfold filled
        cases hst : b.st with
        | none => rfl
        | some q => exact hlate b (List.mem_of_getElem? hk) q hst hwt
      rw [e4 this] at e3
      exact e3
    have hduty := hduty a w h2 h4 hr h5 (fun j hj => h6 j (hany j hj)) holds (fun j d hj hd => hS j d hd (hlateS j hj))
    cases hg : o.guard with
    | none =>
      rw [hg] at hduty
      simp only [Region.wanted, hg, if_true]
      exact Does.wp hduty (fun v w' ⟨hw, hp⟩ => by rw [hd]; exact hK _ _ (h'.norm hF hI hM hnd hX hx hDi hb hw hp))
    | some gb =>
      obtain ⟨g, b⟩ := gb
      rw [hg] at hduty
      simp only at hduty
      obtain ⟨⟨dg, hdg⟩, hyes, hno⟩ := hduty
      have hgo : ∃ og, ops[g]? = some og := by
        have : g < ops.size := by
          rw [← hlen]
          apply Classical.byContradiction
          intro hn
          rw [List.getD_eq_getElem?_getD, List.getElem?_eq_none (by omega)] at hdg
          simp at hdg
        exact ⟨_, Array.getElem?_eq_getElem this⟩
      obtain ⟨og, hog⟩ := hgo
      have hgn : dg < n := hF.1 g dg hdg
      have hrd : rd Ds a g = a.eval (.tmp dg) := by unfold rd; rw [hdg]
      have hy : yielded ops a.tmps g = (match a.eval (.tmp dg) with | .bool b => some b | _ => none) := by
        unfold yielded
        rw [hog]
        simp only [Option.bind_some, hdst g og hog, hdg]
        have : a.tmps[dg]? = some (a.eval (.tmp dg)) := by
          rw [Array.getElem?_eq_getElem (by omega)]
          simp only [Act.eval, Array.getD, h2, hgn, dif_pos]
          rfl
        rw [this]
        generalize a.eval (.tmp dg) = v
        cases v <;> rfl
      rw [hrd] at hyes hno
      by_cases hv : a.eval (.tmp dg) = .bool b
      · have hw : Region.wanted o (yielded ops a.tmps) = true := by
          simp only [Region.wanted, hg]
          rw [hy, hv]
          simp
        rw [if_pos hw]
        exact Does.wp (hyes hv) (fun v w' ⟨hw, hp⟩ => by rw [hd]; exact hK _ _ (h'.norm hF hI hM hnd hX hx hDi hb hw hp))
      · have hw : ¬ Region.wanted o (yielded ops a.tmps) = true := by
          simp only [Region.wanted, hg]
          rw [hy]
          intro hc
          apply hv
          generalize a.eval (.tmp dg) = v at *
          cases v <;> simp at hc
          rw [hc]
        rw [if_neg hw, hd]
        exact hK _ _ (h'.norm hF hI hM hnd hX hx hDi hb (Below.refl _ _) (hno hv))
  | touch q hq hqi d hd hDi hg hb hduty =>
    have holds : Olds bx i w := by
      intro k b hk hia hwt
      have hmd : made l b = true := by unfold made; rw [hia]
      obtain ⟨_, e2, _, v, e3, e4, _⟩ := h7.1 k b hk hmd
      rw [e2 hia] at e3
      have : filled l b = false := by
        unfold filled
        cases hst : b.st with
        | none => rfl
        | some q => exact hlate b (List.mem_of_getElem? hk) q hst hwt
      rw [e4 this] at e3
      exact e3
    have hsame := (hXs q hq).1 (by rw [hqi]; exact hnd)
    have hduty := hduty a w h2 h4 hr h5 (fun j hj => h6 j (hany j hj)) holds (fun j d hj hd => hS j d hd (hlateS j hj)) hsame
    simp only [Region.wanted, hg, if_true]
    exact Does.wp hduty (fun v w' ⟨ht, hu, hp, hs⟩ => by rw [hd]; exact hK _ _ (h'.touch hF hI hM hnd hX hq hqi hDi hb ht hu hp hs))
  | alloc k b hk hia hop hd hg hp hx hu hs =>
    have hm := List.mem_of_getElem? hk
    have hrun : ∃ cs, b.τ.Cs b.v0 cs ∧ Does P o a.eval w fun v w' => v = .pointer (some ⟨w.heap.size, 0, none⟩) ∧ w' = w.alloc (.cells cs b.τ.T) := by
      rcases hop with ⟨hop, hz⟩ | ⟨x, hop, hcs, hx⟩
      · obtain ⟨cs, hc, hrun⟩ := (hτ b hm).alloc w
        refine ⟨cs, by rw [hz]; exact hc, ⟨?_⟩⟩
        unfold Turns
        simp only [execOp, hop]
        simp [hrun]
      · obtain ⟨cs, hc, hrun⟩ := (hτ b hm).box w b.v0 hcs
        refine ⟨cs, hc, ⟨?_⟩⟩
        unfold Turns
        simp only [execOp, hop, hx a h5]
        simp [hrun]
    obtain ⟨cs, hc, hdoes⟩ := hrun
    simp only [Region.wanted, hg, if_true]
    have hns : ∀ q, b.st = some q → flag l q.1 = false := by
      intro q hq
      cases hf : flag l q.1 with
      | false => rfl
      | true =>
        have := hearly b hm q i hq hia hf
        rw [hnd] at this
        cases this
    refine Does.wp hdoes (fun v w' ⟨hv, hw⟩ => ?_)
    subst hv hw
    rw [hd]
    exact hK _ _ (h'.alloc hF hI hM hnd hX hx hk hia hu hs (fun v w => by rw [hp]; trivial) hc hns)
  | store k b src isrc hk his hop hd hDi hg hp hx ha hs hu hn hv =>
    have hm := List.mem_of_getElem? hk
    have hia : made l b = true := by
      unfold made
      cases hia : b.ia with
      | none => rfl
      | some ia => exact hany _ (ha ia hia)
    have hisrc := hany _ hs
    obtain ⟨e1, e2, e2', u, e3, e4⟩ := h7.1 k b hk hia
    have f2 := ((hF.2 b hm).2.2 _ his).2.1
    have hsrc := h6 _ hisrc
    have hrd : rd Ds a isrc = a.eval (.tmp src) := by unfold rd; rw [f2]
    rw [hrd] at hsrc
    obtain ⟨w', hrun, hbv, honly⟩ := (hτ b hm).store w (gs k) u _ e3 (hv _ _ hsrc)
    simp only [Region.wanted, hg, if_true]
    have hdoes : Does P o a.eval w fun v w'' => w'' = w' := by
      refine ⟨?_⟩
      unfold Turns
      simp only [execOp, hop, e1]
      simp [hrun]
    refine Does.wp hdoes (fun v w'' hw => ?_)
    subst hw
    rw [hd]
    exact hK _ _ (Mid5.store (hτ b hm) h1 h2 h3 h4 hr h5 hS hDi hX hx hXs h6 h7 hM hil hk his hu hn (fun v w => by rw [hp]; trivial) hia hisrc honly hbv)

/-- The region, drawn or in order. -/
theorem region5 {P : Program} {ops : Array Oper} {Q : Exit → Act → World → Prop} {id n : Nat} {a : Act} {w : World} {dr : Bool} (Ds : List (Option Nat)) (Ps : List Says) (bx : List Bx) (Xt : List Xb) (Wt : List (Nat × Nat)) (hm : P.follows .mixedOrders = true) (hn : a.tmps.size = n) (hDs : ops.toList.map (·.dst) = Ds)
    (hinj : (Ds.zipIdx.all fun p => p.1.isNone || Ds.zipIdx.all fun q => p.1 != q.1 || p.2 == q.2) = true) (hf1 : (Ds.all fun d => d.all fun d => decide (d < n)) = true) (hf2 : (bx.all (fitOne Ds)) = true)
    (hdep : (ops.toList.zipIdx.all fun p => p.1.after.all fun e => !Region.binds .any e || decide (e.on < p.2)) = true)
    (hst : (bx.all (waitOne ops)) = true) (hwt : (Wt.all fun p => ((ops[p.1]?).map fun o => o.after.toList.any fun e => e.on == p.2 && Region.binds .any e).getD false) = true)
    (hM : Mono5s Ps) (hX : XOk bx Xt w) (hτ : ∀ b ∈ bx, BoxOk P b.τ) (hold : ∀ b ∈ bx, b.ia = none → a.eval (.tmp b.d) = .pointer (some ⟨b.g0, 0, none⟩) ∧ BoxV b.τ w b.g0 b.v0) (hdis : ∀ (k k' : Nat) (b b' : Bx), bx[k]? = some b → bx[k']? = some b' → k ≠ k' → b.ia = none → b'.ia = none → b.g0 ≠ b'.g0) (hD : Duties5 P n Ds Ps bx Xt Wt a w 0 ops.toList Ps)
    (hend : ∀ (a' : Act) (w' : World) (gs : Nat → Nat), a'.tmps.size = n → a'.defers = a.defers → But5 bx Xt w w' → Ru w w' → Rest4 Ds a a' → (∀ j, j < Ds.length → Ps.getD j (fun _ _ => True) (rd Ds a' j) w') → (∀ q ∈ Xt, q.i < Ds.length → q.S (rd Ds a' q.i) w') →
      (∀ (k : Nat) (b : Bx), bx[k]? = some b → a'.eval (.tmp b.d) = .pointer (some ⟨gs k, 0, none⟩) ∧ (b.ia = none → gs k = b.g0) ∧ (b.ia ≠ none → w.heap.size ≤ gs k) ∧ BoxV b.τ w' (gs k) (match b.st with | some q => a'.eval (.tmp q.2.1) | none => b.v0)) → (∀ (k k' : Nat), k < bx.length → k' < bx.length → k ≠ k' → gs k ≠ gs k') → Q .normal a' w') : (Code.region id ops dr).wp P Q a w := by
  have hlen : Ds.length = ops.size := by rw [← hDs]; simp
  have hdst : ∀ j o, ops[j]? = some o → o.dst = Ds.getD j none := by
    intro j o ho
    rw [← hDs, List.getD_eq_getElem?_getD, List.getElem?_map, Array.getElem?_toList, ho]
    rfl
  have hF := fits_of hf1 hf2
  have hI := inj_of hinj
  let Inv : Array Bool → Act → World → Prop := fun l a' w' => Mid5 n Ds Ps bx Xt a w l a' w' ∧ ∀ j o, ops[j]? = some o → flag l j = true → ∀ e ∈ o.after, Region.binds .any e = true → flag l e.on = true
  have hmd : ∀ l b, b ∈ bx → (∀ j, j < ops.size → flag l j = true) → made l b = true := by
    intro l b hb hall
    unfold made
    cases hia : b.ia with
    | none => rfl
    | some ia => exact hall _ (by rw [← hlen]; exact ((hF.2 b hb).1 ia hia).2)
  have hfin : ∀ l a' w', Inv l a' w' → (∀ j, j < ops.size → flag l j = true) → Q .normal a' w' := by
    rintro l a' w' ⟨⟨h1, h2, h3, h4, hr, h5, _, hXs, h6, gs, h7, h8⟩, _⟩ hall
    refine hend a' w' gs h2 h3 h4 hr h5 (fun j hj => h6 j (hall j (by omega))) (fun q hq hl => (hXs q hq).2 (hall q.i (by omega))) (fun k b hk => ?_) (fun k k' hk hk' hne => ?_)
    · have hmem := List.mem_of_getElem? hk
      obtain ⟨e1, e2, e2', v, e3, e4, e5⟩ := h7 k b hk (hmd l b hmem hall)
      refine ⟨e1, e2, e2', ?_⟩
      cases hs : b.st with
      | none =>
        have : filled l b = false := by unfold filled; rw [hs]
        rw [e4 this] at e3
        exact e3
      | some q =>
        obtain ⟨_, e6⟩ := e5 q hs (hall _ (by rw [← hlen]; exact ((hF.2 b hmem).2.2 q hs).1))
        simp only
        rw [e6]
        exact e3
    · exact h8 k k' bx[k] bx[k'] (List.getElem?_eq_getElem hk) (List.getElem?_eq_getElem hk') hne (hmd l _ (List.getElem_mem hk) hall) (hmd l _ (List.getElem_mem hk') hall)
  have hwait : ∀ l, (∀ j o, ops[j]? = some o → flag l j = true → ∀ e ∈ o.after, Region.binds .any e = true → flag l e.on = true) → ∀ b ∈ bx, ∀ q, b.st = some q → flag l q.1 = true → (∀ ia, b.ia = some ia → flag l ia = true) ∧ ∀ i, b.wt.contains i = true → flag l i = true := by
    intro l hcl b hb q hq hfl
    have := List.all_eq_true.1 hst b hb
    unfold waitOne at this
    rw [hq] at this
    simp only [Option.all_some] at this
    cases ho' : ops[q.1]? with
    | none => rw [ho'] at this; simp at this
    | some o' =>
      rw [ho'] at this
      simp only [Option.map_some, Option.getD_some, Bool.and_eq_true] at this
      have key : ∀ j, (o'.after.toList.any fun e => e.on == j && Region.binds .any e) = true → flag l j = true := by
        intro j hj
        obtain ⟨e, he, hj⟩ := List.any_eq_true.1 hj
        simp only [Bool.and_eq_true, beq_iff_eq] at hj
        obtain ⟨hj1, hj2⟩ := hj
        have := hcl q.1 o' ho' hfl e (by simpa using he) hj2
        rwa [hj1] at this
      refine ⟨fun ia hia => ?_, fun i hi => ?_⟩
      · have h1 := this.1
        rw [hia] at h1
        exact key ia (by simpa using h1)
      · have h2 := List.all_eq_true.1 this.2 i (by simpa using hi)
        exact key i h2
  have hone : ∀ l a' w', Inv l a' w' → ∀ i o, ops[i]? = some o → flag l i = false → (∀ e ∈ o.after, Region.binds .any e = true → flag l e.on = true) → wpOp P ops Q i (fun a'' w'' => Inv (l.setIfInBounds i true) a'' w'') a' w' := by
    rintro l a' w' ⟨hmid, hcl⟩ i o ho hnd hdeps
    refine wpOp_mono (fun a'' w'' h => ⟨h, fun j oj hoj hj e he hb => ?_⟩) (duty5_step hlen hD hdst hF hI hM hX hτ ho hnd (fun b hb q ia hq hia hfl => (hwait l hcl b hb q hq hfl).1 ia hia) (fun j hj => ?_) (fun b hb q hq hwt => ?_) hmid hdeps)
    · have keep : ∀ m, flag l m = true → flag (l.setIfInBounds i true) m = true := by
        intro m hm'
        by_cases e' : m = i
        · subst e'
          rw [hnd] at hm'
          cases hm'
        · rw [flag_set_ne e']
          exact hm'
      rcases flag_set hj with rfl | ⟨_, hj⟩
      · rw [ho] at hoj
        obtain rfl := Option.some.inj hoj
        exact keep _ (hdeps e he hb)
      · exact keep _ (hcl j oj hoj hj e he hb)
    · cases hfl : flag l j with
      | false => rfl
      | true =>
        have h1 := List.all_eq_true.1 hwt (j, i) (by simpa using hj)
        cases ho' : ops[j]? with
        | none => rw [ho'] at h1; simp at h1
        | some o' =>
          rw [ho'] at h1
          simp only [Option.map_some, Option.getD_some] at h1
          obtain ⟨e, he, h2⟩ := List.any_eq_true.1 h1
          simp only [Bool.and_eq_true, beq_iff_eq] at h2
          have := hcl j o' ho' hfl e (by simpa using he) h2.2
          rw [h2.1, hnd] at this
          cases this
    · cases hfl : flag l q.1 with
      | false => rfl
      | true =>
        have := (hwait l hcl b hb q hq hfl).2 i hwt
        rw [hnd] at this
        cases this
  have h0f : ∀ j, flag (Array.replicate ops.size false) j = false := by
    intro j
    simp only [flag, Array.getD_eq_getD_getElem?, Array.getElem?_replicate]
    split <;> rfl
  have hia0 : ∀ b, made (Array.replicate ops.size false) b = true → b.ia = none := by
    intro b hb
    unfold made at hb
    cases hia : b.ia with
    | none => rfl
    | some ia => rw [hia] at hb; simp only [h0f] at hb; cases hb
  have hstart : ∀ w', Below w.heap.size w w' → Inv (Array.replicate ops.size false) a w' := by
    intro w' hb
    refine ⟨⟨by simp [hlen], hn, rfl, ⟨hb.os, hb.tape, hb.output, hb.size, fun m hm' _ _ => hb.block m hm'⟩, Ru.of_below hb, fun _ _ => rfl, fun _ _ _ _ => rfl, fun q hq => ⟨fun _ => hb.block q.m (hX.old q hq), fun hf => by rw [h0f] at hf; cases hf⟩, fun j hj => ?_, fun k => (bx[k]?.map (·.g0)).getD 0, fun k b hk hf => ?_, fun k k' b b' hk hk' hne hf hf' => ?_⟩, fun j o _ hj => ?_⟩
    · rw [h0f] at hj; cases hj
    · have hia := hia0 b hf
      obtain ⟨o1, o2⟩ := hold b (List.mem_of_getElem? hk) hia
      simp only [hk, Option.map_some, Option.getD_some]
      refine ⟨o1, fun _ => trivial, fun h => absurd hia h, b.v0, o2.below hb, fun _ => rfl, fun q _ hfl => ?_⟩
      rw [h0f] at hfl; cases hfl
    · simp only [hk, hk', Option.map_some, Option.getD_some]
      exact hdis k k' b b' hk hk' hne (hia0 b hf) (hia0 b' hf')
    · rw [h0f] at hj; cases hj
  cases dr with
  | false =>
    refine wp_region_seq Inv (hstart w (Below.refl _ _)) hfin (fun l a' w' hI i hi hnd hlow => ?_)
    have ho : ops[i]? = some ops[i] := Array.getElem?_eq_getElem hi
    refine hone l a' w' hI i _ ho hnd (fun e he hb => hlow e.on ?_)
    have h1 := List.all_eq_true.1 hdep (ops[i], i) (by
      rw [List.mem_zipIdx_iff_getElem?]
      simp [hi])
    have := Array.all_eq_true_iff_forall_mem.1 h1 e he
    rw [hb] at this
    simpa using this
  | true =>
    refine wp_region_inv hm Inv (hstart _ (Below.drew (Below.refl _ _))) (fun l a' w' hI hr => hfin l a' w' hI (fun j hj => all_listed4 hdep (by rw [hI.1.1, hlen]) hr j hj)) (fun l a' w' hI i hi => ?_)
    obtain ⟨h1, o, ho, hdeps⟩ := mem_ready.1 hi
    have hnd : flag l i = false := by
      have hs : i < l.size := by rw [hI.1.1, hlen]; exact (Array.getElem?_eq_some_iff.1 ho).1
      rw [Array.getD_eq_getD_getElem?, Array.getElem?_eq_getElem hs] at h1
      simp only [flag, Array.getD_eq_getD_getElem?, Array.getElem?_eq_getElem hs]
      simpa using h1
    exact hone l a' w' hI i o ho hnd hdeps

end Lm
end Go.Proofs.Ytjhhjefobbhdlaa
