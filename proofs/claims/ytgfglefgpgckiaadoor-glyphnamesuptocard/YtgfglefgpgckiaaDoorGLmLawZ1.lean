/-
  A region over a frame that is not written out, with structs that it makes and fills, whatever the order. No function is named here. Structs that hold whole numbers, and single operations on them, over a frame that is not written out. Tuples, lists of limbs, fractions: what single operations on them come to, over a frame that is not written out. Structs that hold fractions, and single operations on them, over a frame that is not written out. The numerator and the denominator of a fraction, as they were handed in; 0 and 1, if the denominator is 0. The contracts of Uint, gcdShort and Gcd. The contracts of the reference's plus: two magnitudes together. The reference's numbers with signs: what a sign and digits are worth; the contract of made. Structs that hold the document's own numbers and fractions, and single operations on them, over a frame that is not written out. How many limbs the document's own numbers have. The bytes of a code decode to it. No program is named here.
-/
import Derived.Scope
import Derived.Deep.QuietTactic
import Derived.BigQuiet
import Derived.Deep.RegionWith
import Derived.Deep.RegionHeld3
import Derived.Deep.AppendLies
import Derived.Test.YtgfglefgpgckiaaDoorGLmLawZ0
namespace Go.Proofs.YtgfglefgpgckiaaDoor
namespace Lm
open Go Go.RowKit
structure Only (w w' : World) (g : Nat) : Prop where
  os : w'.os = w.os
  tape : w'.tape = w.tape
  output : w'.output = w.output
  size : w'.heap.size = w.heap.size
  other : ∀ k, k ≠ g → w'.heap[k]? = w.heap[k]?
structure BoxTy where
  T : TypeId
  zero : Value
  Cs : Value → Array Value → Prop
def BoxV (τ : BoxTy) (w : World) (g : Nat) (v : Value) : Prop := ∃ cs, τ.Cs v cs ∧ w.heap[g]? = some (.cells cs τ.T (0, 0))
theorem BoxV.lt {τ : BoxTy} {w : World} {g : Nat} {v : Value} (h : BoxV τ w g v) : g < w.heap.size := by
  obtain ⟨cs, _, h⟩ := h
  exact lt_of_heap h
theorem BoxV.below {τ : BoxTy} {w w' : World} {g : Nat} {v : Value} (h : BoxV τ w g v) (hb : Below w.heap.size w w') : BoxV τ w' g v := by
  obtain ⟨cs, hc, h⟩ := h
  exact ⟨cs, hc, (hb.block g (lt_of_heap h)).trans h⟩
theorem BoxV.only {τ : BoxTy} {w w' : World} {g k : Nat} {v : Value} (h : BoxV τ w k v) (ho : Only w w' g) (hn : k ≠ g) : BoxV τ w' k v := by
  obtain ⟨cs, hc, h⟩ := h
  exact ⟨cs, hc, (ho.other k hn).trans h⟩
structure BoxOk (P : Program) (τ : BoxTy) : Prop where
  noInt : ∀ v cs, τ.Cs v cs → ∀ (i : Nat) (k : IntKind) (z : Int), cs[i]? ≠ some (.int k z)
  ne : τ.T ≠ 50 ∧ τ.T ≠ 3
  alloc : ∀ w, ∃ cs, τ.Cs τ.zero cs ∧ (Instr.alloc τ.T true (.tuple #[])).run P w = .ok (.pointer (some ⟨w.heap.size, 0, none⟩)) (w.alloc (.cells cs τ.T))
  box : ∀ w v, (∃ cs, τ.Cs v cs) → ∃ cs, τ.Cs v cs ∧ (Instr.box τ.T v).run P w = .ok (.pointer (some ⟨w.heap.size, 0, none⟩)) (w.alloc (.cells cs τ.T))
  store : ∀ w g v0 v, BoxV τ w g v0 → (∃ cs, τ.Cs v cs) → ∃ w', (Instr.storeAt τ.T (.pointer (some ⟨g, 0, none⟩)) v).run P w = .ok () w' ∧ BoxV τ w' g v ∧ Only w w' g
  load : ∀ w g v, BoxV τ w g v → (Instr.loadAt τ.T (.pointer (some ⟨g, 0, none⟩))).run P w = .ok v w
structure Rl (w w' : World) : Prop where
  size : w.heap.size ≤ w'.heap.size
  ints : ∀ (p : Addr) (k : IntKind) (z : Int), w.cell? p = some (.int k z) → w'.cell? p = some (.int k z)
  rows : ∀ (g : Nat) (cs : Array Value) (T : TypeId), T = 50 ∨ T = 3 → w.heap[g]? = some (.cells cs T (0, 0)) → w'.heap[g]? = some (.cells cs T (0, 0))
theorem lt_of_cell' {w : World} {p : Addr} {v : Value} (h : w.cell? p = some v) : p.block < w.heap.size := by
  apply Classical.byContradiction
  intro hn
  have : w.heap[p.block]? = none := Array.getElem?_eq_none (by omega)
  simp [World.cell?, this] at h
theorem Rl.of_below {w w' : World} (h : Below w.heap.size w w') : Rl w w' :=
  ⟨h.size, fun p k z e => by rw [h.cell (lt_of_cell' e)]; exact e, fun g cs T _ e => (h.block g (lt_of_heap e)).trans e⟩
theorem Rl.of_only {P : Program} {τ : BoxTy} {w w' : World} {g : Nat} {v : Value} (hτ : BoxOk P τ) (hb : BoxV τ w g v) (h : Only w w' g) : Rl w w' := by
  obtain ⟨cs, hc, hh⟩ := hb
  refine ⟨Nat.le_of_eq h.size.symm, fun p k z e => ?_, fun k cs' T hT e => ?_⟩
  · by_cases hp : p.block = g
    · exfalso
      obtain ⟨b, o, m⟩ := p
      simp only at hp
      subst hp
      simp only [World.cell?, hh] at e
      cases m with
      | none => exact hτ.noInt v cs hc o k z (by simpa using e)
      | some m => simp at e
    · rw [World.cell?_of_block (w := w) (h.other p.block hp)]
      exact e
  · by_cases hk : k = g
    · exfalso
      subst hk
      rw [hh] at e
      have : τ.T = T := by injection e with e; injection e
      rcases hT with rfl | rfl
      · exact hτ.ne.1 this
      · exact hτ.ne.2 this
    · exact (h.other k hk).trans e
theorem Rl.trans {w w' w'' : World} (h : Rl w w') (h' : Rl w' w'') : Rl w w'' := ⟨Nat.le_trans h.size h'.size, fun p k z e => h'.ints p k z (h.ints p k z e), fun g cs T hT e => h'.rows g cs T hT (h.rows g cs T hT e)⟩
theorem Sl.rl {w w' : World} {v : Value} {zs : List Int} (h : Sl w v zs) (hr : Rl w w') : Sl w' v zs := by
  obtain ⟨ao, cap, rfl, h1, h2, h3, h4⟩ := h
  refine ⟨ao, cap, rfl, h1, h2, h3, ?_⟩
  rcases h4 with h4 | ⟨b, off, rfl, hc⟩
  · exact .inl h4
  · exact .inr ⟨b, off, rfl, fun i hi => hr.ints _ _ _ (hc i hi)⟩
structure Bx where
  τ : BoxTy
  ia : Option Nat
  g0 : Nat
  d : Nat
  v0 : Value
  st : Option (Nat × Nat × Nat)
  wt : List Nat
def flag (l : Array Bool) (j : Nat) : Bool := l.getD j false
theorem flag_set_same {l : Array Bool} {i : Nat} (h : i < l.size) : flag (l.setIfInBounds i true) i = true := by
  simp [flag, h]
theorem flag_set_ne {l : Array Bool} {i j : Nat} (h : j ≠ i) : flag (l.setIfInBounds i true) j = flag l j := getD_set_ne false (fun e => h e.symm)
theorem flag_set {l : Array Bool} {i j : Nat} (h : flag (l.setIfInBounds i true) j = true) : j = i ∨ (j ≠ i ∧ flag l j = true) := by
  by_cases e : j = i
  · exact .inl e
  · exact .inr ⟨e, by rwa [flag_set_ne e] at h⟩
def rd (Ds : List (Option Nat)) (a : Act) (j : Nat) : Value := match Ds.getD j none with | some d => a.eval (.tmp d) | none => undef
def Rest4 (Ds : List (Option Nat)) (a0 a : Act) : Prop := ∀ k, Ds.contains (some k) = false → a.eval (.tmp k) = a0.eval (.tmp k)
def Mono4 (p : Says) : Prop := ∀ v w w', Rl w w' → p v w → p v w'
def Mono4s : List Says → Prop
  | [] => True
  | p :: ps => Mono4 p ∧ Mono4s ps
theorem Mono4s.at {ps : List Says} (h : Mono4s ps) (j : Nat) : Mono4 (ps.getD j (fun _ _ => True)) := by
  induction ps generalizing j with
  | nil => intro v w w' _ _; simp
  | cons p ps ih =>
    cases j with
    | zero => simpa using h.1
    | succ j => simpa using ih h.2 j
def made (l : Array Bool) (b : Bx) : Bool := match b.ia with | some i => flag l i | none => true
def filled (l : Array Bool) (b : Bx) : Bool := match b.st with | some q => flag l q.1 | none => false
def Content (b : Bx) (l : Array Bool) (a : Act) (v : Value) : Prop := (filled l b = false → v = b.v0) ∧ ∀ q, b.st = some q → flag l q.1 = true → flag l q.2.2 = true ∧ a.eval (.tmp q.2.1) = v
def Boxes (bx : List Bx) (w0 : World) (l : Array Bool) (a : Act) (w : World) (gs : Nat → Nat) : Prop :=
  (∀ k b, bx[k]? = some b → made l b = true → a.eval (.tmp b.d) = .pointer (some ⟨gs k, 0, none⟩) ∧ (b.ia = none → gs k = b.g0) ∧ (b.ia ≠ none → w0.heap.size ≤ gs k) ∧ ∃ v, BoxV b.τ w (gs k) v ∧ Content b l a v) ∧
  (∀ k k' b b', bx[k]? = some b → bx[k']? = some b' → k ≠ k' → made l b = true → made l b' = true → gs k ≠ gs k')
structure But (bx : List Bx) (w0 w : World) : Prop where
  os : w.os = w0.os
  tape : w.tape = w0.tape
  output : w.output = w0.output
  size : w0.heap.size ≤ w.heap.size
  keep : ∀ m, m < w0.heap.size → (∀ b ∈ bx, b.ia = none → b.g0 ≠ m) → w.heap[m]? = w0.heap[m]?
theorem But.below {bx : List Bx} {w0 w : World} (h : But bx w0 w) {B : Nat} (hB : B ≤ w0.heap.size) (ho : ∀ b ∈ bx, b.ia = none → B ≤ b.g0) : Below B w0 w :=
  ⟨h.os, h.tape, h.output, h.size, fun k hk => h.keep k (by omega) (fun b hb hn => by have := ho b hb hn; omega)⟩
def Slots (Ds : List (Option Nat)) (a0 : Act) (l : Array Bool) (a : Act) : Prop := ∀ j d, Ds.getD j none = some d → flag l j = false → a.eval (.tmp d) = a0.eval (.tmp d)
def Mid4 (n : Nat) (Ds : List (Option Nat)) (Ps : List Says) (bx : List Bx) (a0 : Act) (w0 : World) (l : Array Bool) (a : Act) (w : World) : Prop :=
  l.size = Ds.length ∧ a.tmps.size = n ∧ a.defers = a0.defers ∧ But bx w0 w ∧ Rl w0 w ∧ Rest4 Ds a0 a ∧ Slots Ds a0 l a ∧ (∀ j, flag l j = true → Ps.getD j (fun _ _ => True) (rd Ds a j) w) ∧ ∃ gs, Boxes bx w0 l a w gs
def Deps4 (Ds : List (Option Nat)) (Ps : List Says) (o : Oper) (a : Act) (w : World) : Prop := ∀ j, (o.after.toList.any fun e => e.on == j && Region.binds .any e) = true → Ps.getD j (fun _ _ => True) (rd Ds a j) w
def Olds (bx : List Bx) (i : Nat) (w : World) : Prop := ∀ (k : Nat) (b : Bx), bx[k]? = some b → b.ia = none → b.wt.contains i = true → BoxV b.τ w b.g0 b.v0
inductive Duty4 (P : Program) (n : Nat) (Ds : List (Option Nat)) (Ps : List Says) (bx : List Bx) (Wt : List (Nat × Nat)) (a0 : Act) (w0 : World) (i : Nat) (o : Oper) (p : Says) : Prop
  | norm (d : Nat) (hd : o.dst = some d) (hD : Ds.getD i none = some d) (hb : (bx.all fun b => b.ia != some i && b.st.all fun q => q.1 != i) = true)
      (h : ∀ a w, a.tmps.size = n → But bx w0 w → Rl w0 w → Rest4 Ds a0 a → Deps4 Ds Ps o a w → Olds bx i w → (∀ j d, Wt.contains (j, i) = true → Ds.getD j none = some d → a.eval (.tmp d) = a0.eval (.tmp d)) →
        match o.guard with
        | none => Does P o a.eval w fun v w' => Below w.heap.size w w' ∧ p v w'
        | some (g, b) => (∃ dg, Ds.getD g none = some dg) ∧ (rd Ds a g = .bool b → Does P o a.eval w fun v w' => Below w.heap.size w w' ∧ p v w') ∧ (rd Ds a g ≠ .bool b → p undef w))
  | alloc (k : Nat) (b : Bx) (hk : bx[k]? = some b) (hi : b.ia = some i) (ho : (o.op = .alloc b.τ.T ∧ b.v0 = b.τ.zero) ∨ ∃ x, o.op = .box b.τ.T x ∧ (∃ cs, b.τ.Cs b.v0 cs) ∧ ∀ a, Rest4 Ds a0 a → a.eval x = b.v0) (hd : o.dst = some b.d) (hg : o.guard = none) (hp : p = fun _ _ => True) (hu : (bx.zipIdx.all fun q => q.2 == k || (q.1.ia != some i)) = true) (hs : (bx.all fun b => b.st.all fun q => q.1 != i && q.2.2 != i) = true)
  | store (k : Nat) (b : Bx) (src isrc : Nat) (hk : bx[k]? = some b) (hi : b.st = some (i, src, isrc)) (ho : o.op = .store b.τ.T (.tmp b.d) (.tmp src)) (hd : o.dst = none) (hD : Ds.getD i none = none) (hg : o.guard = none) (hp : p = fun _ _ => True) (ha : ∀ ia, b.ia = some ia → (o.after.toList.any fun e => e.on == ia && Region.binds .any e) = true) (hs : (o.after.toList.any fun e => e.on == isrc && Region.binds .any e) = true) (hu : (bx.zipIdx.all fun q => q.2 == k || (q.1.st.all fun q => q.1 != i)) = true) (hn : (bx.all fun b => b.ia != some i && b.st.all fun q => q.2.2 != i) = true)
      (hv : ∀ v w, Ps.getD isrc (fun _ _ => True) v w → ∃ cs, b.τ.Cs v cs)
def Duties4 (P : Program) (n : Nat) (Ds : List (Option Nat)) (Ps : List Says) (bx : List Bx) (Wt : List (Nat × Nat)) (a0 : Act) (w0 : World) : Nat → List Oper → List Says → Prop
  | _, [], [] => True
  | i, o :: os, p :: ps => Duty4 P n Ds Ps bx Wt a0 w0 i o p ∧ Duties4 P n Ds Ps bx Wt a0 w0 (i + 1) os ps
  | _, _, _ => False
theorem Duties4.at {P : Program} {n : Nat} {Ds : List (Option Nat)} {Ps : List Says} {bx : List Bx} {Wt : List (Nat × Nat)} {a0 : Act} {w0 : World} : ∀ {os : List Oper} {ps : List Says} {m : Nat}, Duties4 P n Ds Ps bx Wt a0 w0 m os ps → ∀ i o, os[i]? = some o → Duty4 P n Ds Ps bx Wt a0 w0 (m + i) o (ps.getD i fun _ _ => True)
  | [], [], _, _ => fun i o h => by simp at h
  | o :: os, p :: ps, m, h => fun i o' ho => by
    obtain ⟨h1, h2⟩ := h
    cases i with
    | zero =>
      simp only [List.getElem?_cons_zero, Option.some.injEq] at ho
      subst ho
      simpa using h1
    | succ i =>
      have := Duties4.at h2 i o' (by simpa using ho)
      have e : m + 1 + i = m + (i + 1) := by omega
      rw [e] at this
      simpa using this
  | [], _ :: _, _, h => h.elim
  | _ :: _, [], _, h => h.elim
def Inj (Ds : List (Option Nat)) : Prop := ∀ i j d, Ds.getD i none = some d → Ds.getD j none = some d → i = j
theorem inj_of {Ds : List (Option Nat)} (h : (Ds.zipIdx.all fun p => p.1.isNone || Ds.zipIdx.all fun q => p.1 != q.1 || p.2 == q.2) = true) : Inj Ds := by
  intro i j d hi hj
  have key : ∀ (k : Nat), Ds.getD k none = some d → (some d, k) ∈ Ds.zipIdx := by
    intro k hk
    rw [List.getD_eq_getElem?_getD] at hk
    rw [List.mem_zipIdx_iff_getElem?]
    cases he : Ds[k]? with
    | none => rw [he] at hk; simp at hk
    | some x => rw [he] at hk; simp at hk; simp [hk]
  have h1 := List.all_eq_true.1 h _ (key i hi)
  simp only [Option.isNone_some, Bool.false_or] at h1
  have h2 := List.all_eq_true.1 h1 _ (key j hj)
  simpa using h2
def Fits (n : Nat) (Ds : List (Option Nat)) (bx : List Bx) : Prop := (∀ j d, Ds.getD j none = some d → d < n) ∧ ∀ b ∈ bx, (∀ ia, b.ia = some ia → Ds.getD ia none = some b.d ∧ ia < Ds.length) ∧ (b.ia = none → Ds.contains (some b.d) = false) ∧ ∀ q, b.st = some q → q.1 < Ds.length ∧ Ds.getD q.2.2 none = some q.2.1 ∧ q.2.2 < Ds.length
def fitOne (Ds : List (Option Nat)) (b : Bx) : Bool := (match b.ia with | some ia => Ds.getD ia none == some b.d && decide (ia < Ds.length) | none => !Ds.contains (some b.d)) && b.st.all fun q => decide (q.1 < Ds.length) && (Ds.getD q.2.2 none == some q.2.1) && decide (q.2.2 < Ds.length)
theorem fits_of {n : Nat} {Ds : List (Option Nat)} {bx : List Bx} (h : (Ds.all fun d => d.all fun d => decide (d < n)) = true) (hb : (bx.all (fitOne Ds)) = true) : Fits n Ds bx := by
  refine ⟨fun j d hj => ?_, fun b hm => ?_⟩
  · rw [List.getD_eq_getElem?_getD] at hj
    cases he : Ds[j]? with
    | none => rw [he] at hj; simp at hj
    | some x =>
      rw [he] at hj
      simp at hj
      subst hj
      have := List.all_eq_true.1 h _ (List.mem_of_getElem? he)
      simpa using this
  · have := List.all_eq_true.1 hb b hm
    unfold fitOne at this
    simp only [Bool.and_eq_true] at this
    obtain ⟨h1, h2⟩ := this
    refine ⟨fun ia e => ?_, fun e => ?_, fun q e => ?_⟩
    · rw [e] at h1
      simpa using h1
    · rw [e] at h1
      simpa using h1
    · rw [e] at h2
      simpa [and_assoc] using h2
theorem rd_put_ne {Ds : List (Option Nat)} {a : Act} {i j d : Nat} {v : Value} (hI : Inj Ds) (hi : Ds.getD i none = some d) (hne : j ≠ i) : rd Ds (a.put (some d) v) j = rd Ds a j := by
  unfold rd
  cases hj : Ds.getD j none with
  | none => rfl
  | some d' =>
    simp only
    refine eval_put_ne (fun e => hne ?_)
    subst e
    exact hI j i d hj hi
theorem rest_put {Ds : List (Option Nat)} {a0 a : Act} {i d : Nat} {v : Value} (h : Rest4 Ds a0 a) (hi : Ds.getD i none = some d) : Rest4 Ds a0 (a.put (some d) v) := by
  intro k hk
  rw [eval_put_ne, h k hk]
  rintro rfl
  have : Ds.contains (some d) = true := by
    rw [List.contains_iff_mem]
    rw [List.getD_eq_getElem?_getD] at hi
    cases he : Ds[i]? with
    | none => rw [he] at hi; simp at hi
    | some x => rw [he] at hi; simp at hi; subst hi; exact List.mem_of_getElem? he
  rw [this] at hk
  cases hk
section
variable {P : Program} {n : Nat} {Ds : List (Option Nat)} {Ps : List Says} {bx : List Bx} {a0 : Act} {w0 : World} {l : Array Bool} {a : Act} {w w' : World} {i d : Nat} {v : Value}
theorem contains_of {Ds : List (Option Nat)} {i d : Nat} (hi : Ds.getD i none = some d) : Ds.contains (some d) = true := by
  rw [List.contains_iff_mem]
  rw [List.getD_eq_getElem?_getD] at hi
  cases he : Ds[i]? with
  | none => rw [he] at hi; simp at hi
  | some x => rw [he] at hi; simp at hi; subst hi; exact List.mem_of_getElem? he
theorem lt_of_getD {Ds : List (Option Nat)} {i d : Nat} (hi : Ds.getD i none = some d) : i < Ds.length := by
  apply Classical.byContradiction
  intro hn
  rw [List.getD_eq_getElem?_getD, List.getElem?_eq_none (by omega)] at hi
  simp at hi
theorem Slots.put (h : Slots Ds a0 l a) (hs : l.size = Ds.length) (hI : Inj Ds) (hi : Ds.getD i none = some d) (v : Value) : Slots Ds a0 (l.setIfInBounds i true) (a.put (some d) v) := by
  intro j e hj hf
  by_cases hji : j = i
  · subst hji
    rw [flag_set_same (by rw [hs]; exact lt_of_getD hi)] at hf
    cases hf
  · rw [flag_set_ne hji] at hf
    rw [eval_put_ne, h j e hj hf]
    rintro rfl
    exact hji (hI _ _ _ hj hi)
theorem Mid4.norm (h : Mid4 n Ds Ps bx a0 w0 l a w) (hF : Fits n Ds bx) (hI : Inj Ds) (hM : Mono4s Ps) (hnd : flag l i = false) (hi : Ds.getD i none = some d) (hb : (bx.all fun b => b.ia != some i && b.st.all fun q => q.1 != i) = true) (hw : Below w.heap.size w w') (hp : Ps.getD i (fun _ _ => True) v w') :
    Mid4 n Ds Ps bx a0 w0 (l.setIfInBounds i true) (a.put (some d) v) w' := by
  obtain ⟨h1, h2, h3, h4, hr, h5, hS, h6, gs, h7, h8⟩ := h
  have hdn : d < n := hF.1 i d hi
  have hmade : ∀ b ∈ bx, made (l.setIfInBounds i true) b = made l b := by
    intro b hm
    have hbb := List.all_eq_true.1 hb b hm
    simp only [Bool.and_eq_true, bne_iff_ne] at hbb
    unfold made
    cases hia : b.ia with
    | none => rfl
    | some ia => exact flag_set_ne (fun e => hbb.1 (by rw [hia, e]))
  refine ⟨by simp [h1], by rw [put_tmps]; simp [h2], h3, ⟨hw.os.trans h4.os, hw.tape.trans h4.tape, hw.output.trans h4.output, Nat.le_trans h4.size hw.size, fun m hm ho => (hw.block m (Nat.lt_of_lt_of_le hm h4.size)).trans (h4.keep m hm ho)⟩, hr.trans (Rl.of_below hw), rest_put h5 hi, hS.put h1 hI hi v, fun j hj => ?_, gs, fun k b hk hf => ?_, fun k k' b b' hk hk' hne hf hf' => ?_⟩
  · rcases flag_set hj with rfl | ⟨hne, hj⟩
    · have : rd Ds (a.put (some d) v) j = v := by
        unfold rd
        rw [hi]
        exact eval_put_same (by omega)
      rw [this]
      exact hp
    · rw [rd_put_ne hI hi hne]
      exact hM.at j _ _ _ (Rl.of_below hw) (h6 j hj)
  · have hm := List.mem_of_getElem? hk
    have hbb := List.all_eq_true.1 hb b hm
    simp only [Bool.and_eq_true, bne_iff_ne] at hbb
    obtain ⟨hb1, hb2⟩ := hbb
    obtain ⟨f1, f2, f3⟩ := hF.2 b hm
    rw [hmade b hm] at hf
    obtain ⟨e1, e2, e2', u, e3, e4, e5⟩ := h7 k b hk hf
    refine ⟨?_, e2, e2', u, e3.below hw, fun hs => e4 ?_, fun q hq hs => ?_⟩
    · rw [eval_put_ne, e1]
      rintro rfl
      cases hia : b.ia with
      | none =>
        have := f2 hia
        rw [contains_of hi] at this
        cases this
      | some ia => exact hb1 (by rw [hia, hI _ _ _ (f1 ia hia).1 hi])
    · unfold filled at hs ⊢
      cases hst : b.st with
      | none => rfl
      | some q =>
        rw [hst] at hs hb2
        simp only [Option.all_some, bne_iff_ne] at hb2
        simp only at hs ⊢
        rwa [flag_set_ne hb2] at hs
    · rw [hq] at hb2
      simp only [Option.all_some, bne_iff_ne] at hb2
      rw [flag_set_ne hb2] at hs
      obtain ⟨e6, e7⟩ := e5 q hq hs
      have hne : q.2.2 ≠ i := by
        rintro rfl
        rw [hnd] at e6
        cases e6
      refine ⟨by rw [flag_set_ne hne]; exact e6, ?_⟩
      rw [eval_put_ne, e7]
      intro ee
      have := (f3 q hq).2.1
      rw [← ee] at this
      exact hne (hI _ _ _ this hi)
  · rw [hmade b (List.mem_of_getElem? hk)] at hf
    rw [hmade b' (List.mem_of_getElem? hk')] at hf'
    exact h8 k k' b b' hk hk' hne hf hf'
theorem ne_of_uniq {f : Bx → Bool} {k : Nat} (hu : (bx.zipIdx.all fun q => q.2 == k || f q.1) = true) {k' : Nat} {b : Bx} (hb : bx[k']? = some b) (hne : k' ≠ k) : f b = true := by
  have := List.all_eq_true.1 hu (b, k') (by rw [List.mem_zipIdx_iff_getElem?]; simpa using hb)
  simp only [Bool.or_eq_true, beq_iff_eq] at this
  rcases this with h | h
  · exact absurd h hne
  · exact h
theorem filled_set {b : Bx} (hb : (b.st.all fun q => q.1 != i) = true) : filled (l.setIfInBounds i true) b = filled l b := by
  unfold filled
  cases hst : b.st with
  | none => rfl
  | some q =>
    rw [hst] at hb
    simp only [Option.all_some, bne_iff_ne] at hb
    exact flag_set_ne hb
theorem Mid4.alloc {k : Nat} {b : Bx} {cs : Array Value} (h : Mid4 n Ds Ps bx a0 w0 l a w) (hF : Fits n Ds bx) (hI : Inj Ds) (hM : Mono4s Ps) (hnd : flag l i = false) (hk : bx[k]? = some b) (hia : b.ia = some i) (hu : (bx.zipIdx.all fun q => q.2 == k || (q.1.ia != some i)) = true) (hs : (bx.all fun b => b.st.all fun q => q.1 != i && q.2.2 != i) = true) (hp : ∀ v w, Ps.getD i (fun _ _ => True) v w) (hc : b.τ.Cs b.v0 cs) (hns : ∀ q, b.st = some q → flag l q.1 = false) :
    Mid4 n Ds Ps bx a0 w0 (l.setIfInBounds i true) (a.put (some b.d) (.pointer (some ⟨w.heap.size, 0, none⟩))) (w.alloc (.cells cs b.τ.T)) := by
  obtain ⟨h1, h2, h3, h4, hr, h5, hS, h6, gs, h7, h8⟩ := h
  have hm := List.mem_of_getElem? hk
  obtain ⟨f1, f3⟩ := (hF.2 b hm).1 i hia
  have hdn : b.d < n := hF.1 i b.d f1
  have hw : Below w.heap.size w (w.alloc (.cells cs b.τ.T)) := (Below.refl _ _).alloc (Nat.le_refl _) _
  have hs' : ∀ c ∈ bx, (c.st.all fun q => q.1 != i) = true ∧ ∀ q, c.st = some q → q.2.2 ≠ i := by
    intro c hc'
    have := List.all_eq_true.1 hs c hc'
    cases hst : c.st with
    | none => exact ⟨rfl, fun q hq => by cases hq⟩
    | some q =>
      rw [hst] at this
      simp only [Option.all_some, Bool.and_eq_true, bne_iff_ne] at this
      exact ⟨by simpa using this.1, fun q' hq => by obtain rfl := Option.some.inj hq; exact this.2⟩
  have hmade : ∀ q c, q ≠ k → bx[q]? = some c → made (l.setIfInBounds i true) c = made l c := by
    intro q c hq hc'
    have := ne_of_uniq (f := fun c => c.ia != some i) hu hc' hq
    simp only [bne_iff_ne] at this
    unfold made
    cases hia' : c.ia with
    | none => rfl
    | some ia => exact flag_set_ne (fun e => this (by rw [hia', e]))
  refine ⟨by simp [h1], by rw [put_tmps]; simp [h2], h3, ⟨hw.os.trans h4.os, hw.tape.trans h4.tape, hw.output.trans h4.output, Nat.le_trans h4.size hw.size, fun m hm ho => (hw.block m (Nat.lt_of_lt_of_le hm h4.size)).trans (h4.keep m hm ho)⟩, hr.trans (Rl.of_below hw), rest_put h5 f1, hS.put h1 hI f1 _, fun j hj => ?_, fun q => if q = k then w.heap.size else gs q, fun q c hq hf => ?_, fun q q' c c' hq hq' hne hf hf' => ?_⟩
  · rcases flag_set hj with rfl | ⟨hne, hj⟩
    · exact hp _ _
    · rw [rd_put_ne hI f1 hne]
      exact hM.at j _ _ _ (Rl.of_below hw) (h6 j hj)
  · by_cases e : q = k
    · subst e
      rw [hk] at hq
      obtain rfl := Option.some.inj hq
      simp only [if_true]
      refine ⟨eval_put_same (by omega), fun e => (by rw [hia] at e; cases e), fun _ => h4.size, b.v0, ⟨cs, hc, heap_alloc_new _ _⟩, fun _ => rfl, fun q hq hst => ?_⟩
      have hne := (hs' b hm).1
      rw [hq] at hne
      simp only [Option.all_some, bne_iff_ne] at hne
      rw [flag_set_ne hne, hns q hq] at hst
      cases hst
    · simp only [if_neg e]
      have hcm := List.mem_of_getElem? hq
      rw [hmade q c e hq] at hf
      obtain ⟨e1, e2, e2', u, e3, e4, e5⟩ := h7 q c hq hf
      obtain ⟨g1, g2, g3⟩ := hF.2 c hcm
      have hcne := ne_of_uniq (f := fun c => c.ia != some i) hu hq e
      simp only [bne_iff_ne] at hcne
      refine ⟨?_, e2, e2', u, e3.below hw, fun hst => e4 (by rwa [filled_set (hs' c hcm).1] at hst), fun r hr' hst => ?_⟩
      · rw [eval_put_ne, e1]
        intro e'
        cases hia' : c.ia with
        | none =>
          have := g2 hia'
          rw [← e', contains_of f1] at this
          cases this
        | some ia =>
          have := (g1 ia hia').1
          rw [← e'] at this
          exact hcne (by rw [hia', hI _ _ _ this f1])
      · have hne := (hs' c hcm).1
        rw [hr'] at hne
        simp only [Option.all_some, bne_iff_ne] at hne
        rw [flag_set_ne hne] at hst
        obtain ⟨e6, e7⟩ := e5 r hr' hst
        have hne2 := (hs' c hcm).2 r hr'
        refine ⟨by rw [flag_set_ne hne2]; exact e6, ?_⟩
        rw [eval_put_ne, e7]
        intro e'
        have := (g3 r hr').2.1
        rw [← e'] at this
        exact hne2 (hI _ _ _ this f1)
  · have lt : ∀ r c, r ≠ k → bx[r]? = some c → made (l.setIfInBounds i true) c = true → gs r < w.heap.size := by
      intro r c hr hc' hf
      rw [hmade r c hr hc'] at hf
      obtain ⟨_, _, _, u, e3, _⟩ := h7 r c hc' hf
      exact e3.lt
    by_cases e : q = k
    · have e' : q' ≠ k := fun x => hne (e.trans x.symm)
      simp only [if_pos e, if_neg e']
      have := lt q' c' e' hq' hf'
      omega
    · by_cases e' : q' = k
      · simp only [if_neg e, if_pos e']
        have := lt q c e hq hf
        omega
      · simp only [if_neg e, if_neg e']
        rw [hmade q c e hq] at hf
        rw [hmade q' c' e' hq'] at hf'
        exact h8 q q' c c' hq hq' hne hf hf'
theorem Mid4.store {k src isrc : Nat} {b : Bx} {gs : Nat → Nat} (hτ : BoxOk P b.τ) (h1 : l.size = Ds.length) (h2 : a.tmps.size = n) (h3 : a.defers = a0.defers) (h4 : But bx w0 w) (hr0 : Rl w0 w) (h5 : Rest4 Ds a0 a) (hS : Slots Ds a0 l a) (hDi : Ds.getD i none = none) (h6 : ∀ j, flag l j = true → Ps.getD j (fun _ _ => True) (rd Ds a j) w) (h7 : Boxes bx w0 l a w gs) (hM : Mono4s Ps) (hil : i < l.size) (hk : bx[k]? = some b) (his : b.st = some (i, src, isrc)) (hu : (bx.zipIdx.all fun q => q.2 == k || (q.1.st.all fun q => q.1 != i)) = true) (hn : (bx.all fun b => b.ia != some i && b.st.all fun q => q.2.2 != i) = true) (hp : ∀ v w, Ps.getD i (fun _ _ => True) v w) (hia : made l b = true) (hisrc : flag l isrc = true) (ho : Only w w' (gs k)) (hbv : BoxV b.τ w' (gs k) (a.eval (.tmp src))) :
    Mid4 n Ds Ps bx a0 w0 (l.setIfInBounds i true) a w' := by
  obtain ⟨h7, h8⟩ := h7
  have hm := List.mem_of_getElem? hk
  obtain ⟨e1, e2, e2', u, e3, e4⟩ := h7 k b hk hia
  have hr : Rl w w' := Rl.of_only hτ e3 ho
  have hn' : ∀ c ∈ bx, made (l.setIfInBounds i true) c = made l c ∧ ∀ q, c.st = some q → q.2.2 ≠ i := by
    intro c hc
    have := List.all_eq_true.1 hn c hc
    simp only [Bool.and_eq_true, bne_iff_ne] at this
    refine ⟨?_, fun q hq => ?_⟩
    · unfold made
      cases hia' : c.ia with
      | none => rfl
      | some ia => exact flag_set_ne (fun e => this.1 (by rw [hia', e]))
    · have h2 := this.2
      rw [hq] at h2
      simpa using h2
  refine ⟨by simp [h1], h2, h3, ⟨ho.os.trans h4.os, ho.tape.trans h4.tape, ho.output.trans h4.output, by rw [ho.size]; exact h4.size, fun m hm' hol => ?_⟩, hr0.trans hr, h5, fun j e hj hf => hS j e hj (by rwa [flag_set_ne (fun e' => by rw [e', hDi] at hj; cases hj)] at hf), fun j hj => ?_, gs, fun q c hq hf => ?_, fun q q' c c' hq hq' hne hf hf' => ?_⟩
  · rw [ho.other m, h4.keep m hm' hol]
    intro e
    subst e
    cases hia' : b.ia with
    | none => exact hol b hm hia' (e2 hia').symm
    | some ia =>
      have := e2' (by rw [hia']; simp)
      omega
  · rcases flag_set hj with rfl | ⟨hne, hj⟩
    · exact hp _ _
    · exact hM.at j _ _ _ hr (h6 j hj)
  · have hcm := List.mem_of_getElem? hq
    rw [(hn' c hcm).1] at hf
    obtain ⟨d1, d2, d2', u', d3, d4, d5⟩ := h7 q c hq hf
    by_cases e : q = k
    · subst e
      rw [hk] at hq
      obtain rfl := Option.some.inj hq
      refine ⟨d1, d2, d2', _, hbv, fun hfl => ?_, fun r hr' _ => ?_⟩
      · unfold filled at hfl
        rw [his] at hfl
        simp only [flag_set_same hil] at hfl
        cases hfl
      · rw [his] at hr'
        obtain rfl := Option.some.inj hr'
        exact ⟨by rw [flag_set_ne ((hn' b hm).2 _ his)]; exact hisrc, rfl⟩
    · have hne := ne_of_uniq (f := fun c => c.st.all fun q => q.1 != i) hu hq e
      refine ⟨d1, d2, d2', u', d3.only ho (h8 q k c b hq hk e hf hia), fun hfl => d4 (by rwa [filled_set hne] at hfl), fun r hr' hst => ?_⟩
      rw [hr'] at hne
      simp only [Option.all_some, bne_iff_ne] at hne
      rw [flag_set_ne hne] at hst
      obtain ⟨d6, d7⟩ := d5 r hr' hst
      exact ⟨by rw [flag_set_ne ((hn' c hcm).2 r hr')]; exact d6, d7⟩
  · rw [(hn' c (List.mem_of_getElem? hq)).1] at hf
    rw [(hn' c' (List.mem_of_getElem? hq')).1] at hf'
    exact h8 q q' c c' hq hq' hne hf hf'
end
theorem duty4_step {P : Program} {ops : Array Oper} {Q : Exit → Act → World → Prop} {n : Nat} {Ds : List (Option Nat)} {Ps : List Says} {bx : List Bx} {Wt : List (Nat × Nat)} {a0 : Act} {w0 : World} {l : Array Bool} {a : Act} {w : World} {i : Nat} {o : Oper} (hlen : Ds.length = ops.size) (hD : Duties4 P n Ds Ps bx Wt a0 w0 0 ops.toList Ps) (hdst : ∀ j o, ops[j]? = some o → o.dst = Ds.getD j none) (hF : Fits n Ds bx) (hI : Inj Ds) (hM : Mono4s Ps) (hτ : ∀ b ∈ bx, BoxOk P b.τ) (ho : ops[i]? = some o) (hnd : flag l i = false) (hearly : ∀ b ∈ bx, ∀ q ia, b.st = some q → b.ia = some ia → flag l q.1 = true → flag l ia = true) (hlateS : ∀ j, Wt.contains (j, i) = true → flag l j = false) (hlate : ∀ b ∈ bx, ∀ q, b.st = some q → b.wt.contains i = true → flag l q.1 = false) (h : Mid4 n Ds Ps bx a0 w0 l a w) (hdeps : ∀ e ∈ o.after, Region.binds .any e = true → flag l e.on = true) :
    wpOp P ops Q i (fun a' w' => Mid4 n Ds Ps bx a0 w0 (l.setIfInBounds i true) a' w') a w := by
  have h' := h
  obtain ⟨h1, h2, h3, h4, hr, h5, hS, h6, gs, h7⟩ := h
  have hio : ops.toList[i]? = some o := by rw [Array.getElem?_toList]; exact ho
  have hduty := hD.at i o hio
  rw [Nat.zero_add] at hduty
  have hany : ∀ j, (o.after.toList.any fun e => e.on == j && Region.binds .any e) = true → flag l j = true := by
    intro j hj
    obtain ⟨e, he, hj⟩ := List.any_eq_true.1 hj
    simp only [Bool.and_eq_true, beq_iff_eq] at hj
    obtain ⟨rfl, hb⟩ := hj
    exact hdeps e (by simpa using he) hb
  have hil : i < l.size := by
    rw [h1, hlen]
    exact (Array.getElem?_eq_some_iff.1 ho).1
  refine wpOp_step ho (fun K' hK => ?_)
  cases hduty with
  | norm d hd hDi hb hduty =>
    have holds : Olds bx i w := by
      intro k b hk hia hwt
      have hmd : made l b = true := by unfold made; rw [hia]
      obtain ⟨_, e2, _, v, e3, e4, _⟩ := h7.1 k b hk hmd
      rw [e2 hia] at e3
      have : filled l b = false := by
        unfold filled
        cases hst : b.st with
        | none => rfl
        | some q => exact hlate b (List.mem_of_getElem? hk) q hst hwt
      rw [e4 this] at e3
      exact e3
    have hduty := hduty a w h2 h4 hr h5 (fun j hj => h6 j (hany j hj)) holds (fun j d hj hd => hS j d hd (hlateS j hj))
    cases hg : o.guard with
    | none =>
      rw [hg] at hduty
      simp only [Region.wanted, hg, if_true]
      exact Does.wp hduty (fun v w' ⟨hw, hp⟩ => by rw [hd]; exact hK _ _ (h'.norm hF hI hM hnd hDi hb hw hp))
    | some gb =>
      obtain ⟨g, b⟩ := gb
      rw [hg] at hduty
      simp only at hduty
      obtain ⟨⟨dg, hdg⟩, hyes, hno⟩ := hduty
      have hgo : ∃ og, ops[g]? = some og := by
        have : g < ops.size := by
          rw [← hlen]
          apply Classical.byContradiction
          intro hn
          rw [List.getD_eq_getElem?_getD, List.getElem?_eq_none (by omega)] at hdg
          simp at hdg
        exact ⟨_, Array.getElem?_eq_getElem this⟩
      obtain ⟨og, hog⟩ := hgo
      have hgn : dg < n := hF.1 g dg hdg
      have hrd : rd Ds a g = a.eval (.tmp dg) := by unfold rd; rw [hdg]
      have hy : yielded ops a.tmps g = (match a.eval (.tmp dg) with | .bool b => some b | _ => none) := by
        unfold yielded
        rw [hog]
        simp only [Option.bind_some, hdst g og hog, hdg]
        have : a.tmps[dg]? = some (a.eval (.tmp dg)) := by
          rw [Array.getElem?_eq_getElem (by omega)]
          simp only [Act.eval, Array.getD, h2, hgn, dif_pos]
          rfl
        rw [this]
        generalize a.eval (.tmp dg) = v
        cases v <;> rfl
      rw [hrd] at hyes hno
      by_cases hv : a.eval (.tmp dg) = .bool b
      · have hw : Region.wanted o (yielded ops a.tmps) = true := by
          simp only [Region.wanted, hg]
          rw [hy, hv]
          simp
        rw [if_pos hw]
        exact Does.wp (hyes hv) (fun v w' ⟨hw, hp⟩ => by rw [hd]; exact hK _ _ (h'.norm hF hI hM hnd hDi hb hw hp))
      · have hw : ¬ Region.wanted o (yielded ops a.tmps) = true := by
          simp only [Region.wanted, hg]
          rw [hy]
          intro hc
          apply hv
          generalize a.eval (.tmp dg) = v at *
          cases v <;> simp at hc
          rw [hc]
        rw [if_neg hw, hd]
        exact hK _ _ (h'.norm hF hI hM hnd hDi hb (Below.refl _ _) (hno hv))
  | alloc k b hk hia hop hd hg hp hu hs =>
    have hm := List.mem_of_getElem? hk
    have hrun : ∃ cs, b.τ.Cs b.v0 cs ∧ Does P o a.eval w fun v w' => v = .pointer (some ⟨w.heap.size, 0, none⟩) ∧ w' = w.alloc (.cells cs b.τ.T) := by
      rcases hop with ⟨hop, hz⟩ | ⟨x, hop, hcs, hx⟩
      · obtain ⟨cs, hc, hrun⟩ := (hτ b hm).alloc w
        refine ⟨cs, by rw [hz]; exact hc, ⟨?_⟩⟩
        unfold Turns
        simp only [execOp, hop]
        simp [hrun]
      · obtain ⟨cs, hc, hrun⟩ := (hτ b hm).box w b.v0 hcs
        refine ⟨cs, hc, ⟨?_⟩⟩
        unfold Turns
        simp only [execOp, hop, hx a h5]
        simp [hrun]
    obtain ⟨cs, hc, hdoes⟩ := hrun
    simp only [Region.wanted, hg, if_true]
    have hns : ∀ q, b.st = some q → flag l q.1 = false := by
      intro q hq
      cases hf : flag l q.1 with
      | false => rfl
      | true =>
        have := hearly b hm q i hq hia hf
        rw [hnd] at this
        cases this
    refine Does.wp hdoes (fun v w' ⟨hv, hw⟩ => ?_)
    subst hv hw
    rw [hd]
    exact hK _ _ (h'.alloc hF hI hM hnd hk hia hu hs (fun v w => by rw [hp]; trivial) hc hns)
  | store k b src isrc hk his hop hd hDi hg hp ha hs hu hn hv =>
    have hm := List.mem_of_getElem? hk
    have hia : made l b = true := by
      unfold made
      cases hia : b.ia with
      | none => rfl
      | some ia => exact hany _ (ha ia hia)
    have hisrc := hany _ hs
    obtain ⟨e1, e2, e2', u, e3, e4⟩ := h7.1 k b hk hia
    have f2 := ((hF.2 b hm).2.2 _ his).2.1
    have hsrc := h6 _ hisrc
    have hrd : rd Ds a isrc = a.eval (.tmp src) := by unfold rd; rw [f2]
    rw [hrd] at hsrc
    obtain ⟨w', hrun, hbv, honly⟩ := (hτ b hm).store w (gs k) u _ e3 (hv _ _ hsrc)
    simp only [Region.wanted, hg, if_true]
    have hdoes : Does P o a.eval w fun v w'' => w'' = w' := by
      refine ⟨?_⟩
      unfold Turns
      simp only [execOp, hop, e1]
      simp [hrun]
    refine Does.wp hdoes (fun v w'' hw => ?_)
    subst hw
    rw [hd]
    exact hK _ _ (Mid4.store (hτ b hm) h1 h2 h3 h4 hr h5 hS hDi h6 h7 hM hil hk his hu hn (fun v w => by rw [hp]; trivial) hia hisrc honly hbv)
theorem wp_region_seq {P : Program} {ops : Array Oper} {Q : Exit → Act → World → Prop} {id : Nat} {a : Act} {w : World} (Inv : Array Bool → Act → World → Prop)
    (h0 : Inv (Array.replicate ops.size false) a w)
    (hend : ∀ l a w, Inv l a w → (∀ j, j < ops.size → flag l j = true) → Q .normal a w)
    (hstep : ∀ l a w, Inv l a w → ∀ i, i < ops.size → flag l i = false → (∀ j, j < i → flag l j = true) → wpOp P ops Q i (fun a' w' => Inv (l.setIfInBounds i true) a' w') a w) : (Code.region id ops false).wp P Q a w := by
  refine wp_region ?_
  have key : ∀ k m (l : Array Bool) a w, m + k = ops.size → l.size = ops.size → (∀ j, j < ops.size → flag l j = decide (j < m)) → Inv l a w → wpOps P ops Q (List.range' m k) a w := by
    intro k
    induction k with
    | zero =>
      intro m l a w hm hs hl hI
      exact hend l a w hI (fun j hj => by rw [hl j hj]; simp; omega)
    | succ k ih =>
      intro m l a w hm hs hl hI
      rw [List.range'_succ, wpOps_cons]
      refine wpOp_mono (fun a' w' h => ih (m + 1) _ a' w' (by omega) (by simp [hs]) (fun j hj => ?_) h) (hstep l a w hI m (by omega) (by rw [hl m (by omega)]; simp) (fun j hj => by rw [hl j (by omega)]; simp; omega))
      by_cases e : j = m
      · subst e
        rw [flag_set_same (by omega)]
        simp
      · rw [flag_set_ne e, hl j hj]
        simp only [decide_eq_decide]
        omega
  rw [List.range_eq_range']
  exact key ops.size 0 _ a w (by omega) (by simp) (fun j hj => by simp [flag, Array.getElem?_replicate]; split <;> rfl) h0
theorem all_listed4 {ops : Array Oper} {l : Array Bool} (hd : (ops.toList.zipIdx.all fun p => p.1.after.all fun e => !Region.binds .any e || decide (e.on < p.2)) = true) (hs : l.size = ops.size) (hr : Region.ready .any ops l = []) : ∀ j, j < ops.size → flag l j = true := by
  intro j
  induction j using Nat.strongRecOn with
  | _ j ih =>
    intro hj
    apply Classical.byContradiction
    intro hn
    have hl : l[j]? = some (l[j]'(by omega)) := Array.getElem?_eq_getElem (by omega)
    have hf : l[j]'(by omega) = false := by
      rw [flag, Array.getD_eq_getD_getElem?, hl] at hn
      simpa using hn
    have hmem : j ∈ Region.ready .any ops l := by
      refine mem_ready.2 ⟨by rw [Array.getD_eq_getD_getElem?, hl, hf]; rfl, ops[j], Array.getElem?_eq_getElem hj, fun e he hb => ?_⟩
      have h1 := List.all_eq_true.1 hd (ops[j], j) (by
        rw [List.mem_zipIdx_iff_getElem?]
        simp [hj])
      have h2 : e.on < j := by
        have := Array.all_eq_true_iff_forall_mem.1 h1 e he
        rw [hb] at this
        simpa using this
      exact ih e.on h2 (by omega)
    rw [hr] at hmem
    cases hmem
def waitOne (ops : Array Oper) (b : Bx) : Bool := b.st.all fun q => ((ops[q.1]?).map fun o => (b.ia.all fun ia => o.after.toList.any fun e => e.on == ia && Region.binds .any e) && b.wt.all fun i => o.after.toList.any fun e => e.on == i && Region.binds .any e).getD false
theorem region4 {P : Program} {ops : Array Oper} {Q : Exit → Act → World → Prop} {id n : Nat} {a : Act} {w : World} {dr : Bool} (Ds : List (Option Nat)) (Ps : List Says) (bx : List Bx) (Wt : List (Nat × Nat)) (hm : P.follows .mixedOrders = true) (hn : a.tmps.size = n) (hDs : ops.toList.map (·.dst) = Ds)
    (hinj : (Ds.zipIdx.all fun p => p.1.isNone || Ds.zipIdx.all fun q => p.1 != q.1 || p.2 == q.2) = true) (hf1 : (Ds.all fun d => d.all fun d => decide (d < n)) = true) (hf2 : (bx.all (fitOne Ds)) = true)
    (hdep : (ops.toList.zipIdx.all fun p => p.1.after.all fun e => !Region.binds .any e || decide (e.on < p.2)) = true)
    (hst : (bx.all (waitOne ops)) = true) (hwt : (Wt.all fun p => ((ops[p.1]?).map fun o => o.after.toList.any fun e => e.on == p.2 && Region.binds .any e).getD false) = true)
    (hM : Mono4s Ps) (hτ : ∀ b ∈ bx, BoxOk P b.τ) (hold : ∀ b ∈ bx, b.ia = none → a.eval (.tmp b.d) = .pointer (some ⟨b.g0, 0, none⟩) ∧ BoxV b.τ w b.g0 b.v0) (hdis : ∀ (k k' : Nat) (b b' : Bx), bx[k]? = some b → bx[k']? = some b' → k ≠ k' → b.ia = none → b'.ia = none → b.g0 ≠ b'.g0) (hD : Duties4 P n Ds Ps bx Wt a w 0 ops.toList Ps)
    (hend : ∀ (a' : Act) (w' : World) (gs : Nat → Nat), a'.tmps.size = n → a'.defers = a.defers → But bx w w' → Rl w w' → Rest4 Ds a a' → (∀ j, j < Ds.length → Ps.getD j (fun _ _ => True) (rd Ds a' j) w') →
      (∀ (k : Nat) (b : Bx), bx[k]? = some b → a'.eval (.tmp b.d) = .pointer (some ⟨gs k, 0, none⟩) ∧ (b.ia = none → gs k = b.g0) ∧ (b.ia ≠ none → w.heap.size ≤ gs k) ∧ BoxV b.τ w' (gs k) (match b.st with | some q => a'.eval (.tmp q.2.1) | none => b.v0)) → (∀ (k k' : Nat), k < bx.length → k' < bx.length → k ≠ k' → gs k ≠ gs k') → Q .normal a' w') : (Code.region id ops dr).wp P Q a w := by
  have hlen : Ds.length = ops.size := by rw [← hDs]; simp
  have hdst : ∀ j o, ops[j]? = some o → o.dst = Ds.getD j none := by
    intro j o ho
    rw [← hDs, List.getD_eq_getElem?_getD, List.getElem?_map, Array.getElem?_toList, ho]
    rfl
  have hF := fits_of hf1 hf2
  have hI := inj_of hinj
  let Inv : Array Bool → Act → World → Prop := fun l a' w' => Mid4 n Ds Ps bx a w l a' w' ∧ ∀ j o, ops[j]? = some o → flag l j = true → ∀ e ∈ o.after, Region.binds .any e = true → flag l e.on = true
  have hmd : ∀ l b, b ∈ bx → (∀ j, j < ops.size → flag l j = true) → made l b = true := by
    intro l b hb hall
    unfold made
    cases hia : b.ia with
    | none => rfl
    | some ia => exact hall _ (by rw [← hlen]; exact ((hF.2 b hb).1 ia hia).2)
  have hfin : ∀ l a' w', Inv l a' w' → (∀ j, j < ops.size → flag l j = true) → Q .normal a' w' := by
    rintro l a' w' ⟨⟨h1, h2, h3, h4, hr, h5, _, h6, gs, h7, h8⟩, _⟩ hall
    refine hend a' w' gs h2 h3 h4 hr h5 (fun j hj => h6 j (hall j (by omega))) (fun k b hk => ?_) (fun k k' hk hk' hne => ?_)
    · have hmem := List.mem_of_getElem? hk
      obtain ⟨e1, e2, e2', v, e3, e4, e5⟩ := h7 k b hk (hmd l b hmem hall)
      refine ⟨e1, e2, e2', ?_⟩
      cases hs : b.st with
      | none =>
        have : filled l b = false := by unfold filled; rw [hs]
        rw [e4 this] at e3
        exact e3
      | some q =>
        obtain ⟨_, e6⟩ := e5 q hs (hall _ (by rw [← hlen]; exact ((hF.2 b hmem).2.2 q hs).1))
        simp only
        rw [e6]
        exact e3
    · exact h8 k k' bx[k] bx[k'] (List.getElem?_eq_getElem hk) (List.getElem?_eq_getElem hk') hne (hmd l _ (List.getElem_mem hk) hall) (hmd l _ (List.getElem_mem hk') hall)
  have hwait : ∀ l, (∀ j o, ops[j]? = some o → flag l j = true → ∀ e ∈ o.after, Region.binds .any e = true → flag l e.on = true) → ∀ b ∈ bx, ∀ q, b.st = some q → flag l q.1 = true → (∀ ia, b.ia = some ia → flag l ia = true) ∧ ∀ i, b.wt.contains i = true → flag l i = true := by
    intro l hcl b hb q hq hfl
    have := List.all_eq_true.1 hst b hb
    unfold waitOne at this
    rw [hq] at this
    simp only [Option.all_some] at this
    cases ho' : ops[q.1]? with
    | none => rw [ho'] at this; simp at this
    | some o' =>
      rw [ho'] at this
      simp only [Option.map_some, Option.getD_some, Bool.and_eq_true] at this
      have key : ∀ j, (o'.after.toList.any fun e => e.on == j && Region.binds .any e) = true → flag l j = true := by
        intro j hj
        obtain ⟨e, he, hj⟩ := List.any_eq_true.1 hj
        simp only [Bool.and_eq_true, beq_iff_eq] at hj
        obtain ⟨hj1, hj2⟩ := hj
        have := hcl q.1 o' ho' hfl e (by simpa using he) hj2
        rwa [hj1] at this
      refine ⟨fun ia hia => ?_, fun i hi => ?_⟩
      · have h1 := this.1
        rw [hia] at h1
        exact key ia (by simpa using h1)
      · have h2 := List.all_eq_true.1 this.2 i (by simpa using hi)
        exact key i h2
  have hone : ∀ l a' w', Inv l a' w' → ∀ i o, ops[i]? = some o → flag l i = false → (∀ e ∈ o.after, Region.binds .any e = true → flag l e.on = true) → wpOp P ops Q i (fun a'' w'' => Inv (l.setIfInBounds i true) a'' w'') a' w' := by
    rintro l a' w' ⟨hmid, hcl⟩ i o ho hnd hdeps
    refine wpOp_mono (fun a'' w'' h => ⟨h, fun j oj hoj hj e he hb => ?_⟩) (duty4_step hlen hD hdst hF hI hM hτ ho hnd (fun b hb q ia hq hia hfl => (hwait l hcl b hb q hq hfl).1 ia hia) (fun j hj => ?_) (fun b hb q hq hwt => ?_) hmid hdeps)
    · have keep : ∀ m, flag l m = true → flag (l.setIfInBounds i true) m = true := by
        intro m hm'
        by_cases e' : m = i
        · subst e'
          rw [hnd] at hm'
          cases hm'
        · rw [flag_set_ne e']
          exact hm'
      rcases flag_set hj with rfl | ⟨_, hj⟩
      · rw [ho] at hoj
        obtain rfl := Option.some.inj hoj
        exact keep _ (hdeps e he hb)
      · exact keep _ (hcl j oj hoj hj e he hb)
    · cases hfl : flag l j with
      | false => rfl
      | true =>
        have h1 := List.all_eq_true.1 hwt (j, i) (by simpa using hj)
        cases ho' : ops[j]? with
        | none => rw [ho'] at h1; simp at h1
        | some o' =>
          rw [ho'] at h1
          simp only [Option.map_some, Option.getD_some] at h1
          obtain ⟨e, he, h2⟩ := List.any_eq_true.1 h1
          simp only [Bool.and_eq_true, beq_iff_eq] at h2
          have := hcl j o' ho' hfl e (by simpa using he) h2.2
          rw [h2.1, hnd] at this
          cases this
    · cases hfl : flag l q.1 with
      | false => rfl
      | true =>
        have := (hwait l hcl b hb q hq hfl).2 i hwt
        rw [hnd] at this
        cases this
  have h0f : ∀ j, flag (Array.replicate ops.size false) j = false := by
    intro j
    simp only [flag, Array.getD_eq_getD_getElem?, Array.getElem?_replicate]
    split <;> rfl
  have hia0 : ∀ b, made (Array.replicate ops.size false) b = true → b.ia = none := by
    intro b hb
    unfold made at hb
    cases hia : b.ia with
    | none => rfl
    | some ia => rw [hia] at hb; simp only [h0f] at hb; cases hb
  have hstart : ∀ w', Below w.heap.size w w' → Inv (Array.replicate ops.size false) a w' := by
    intro w' hb
    refine ⟨⟨by simp [hlen], hn, rfl, ⟨hb.os, hb.tape, hb.output, hb.size, fun m hm' _ => hb.block m hm'⟩, Rl.of_below hb, fun _ _ => rfl, fun _ _ _ _ => rfl, fun j hj => ?_, fun k => (bx[k]?.map (·.g0)).getD 0, fun k b hk hf => ?_, fun k k' b b' hk hk' hne hf hf' => ?_⟩, fun j o _ hj => ?_⟩
    · rw [h0f] at hj; cases hj
    · have hia := hia0 b hf
      obtain ⟨o1, o2⟩ := hold b (List.mem_of_getElem? hk) hia
      simp only [hk, Option.map_some, Option.getD_some]
      refine ⟨o1, fun _ => trivial, fun h => absurd hia h, b.v0, o2.below hb, fun _ => rfl, fun q _ hfl => ?_⟩
      rw [h0f] at hfl; cases hfl
    · simp only [hk, hk', Option.map_some, Option.getD_some]
      exact hdis k k' b b' hk hk' hne (hia0 b hf) (hia0 b' hf')
    · rw [h0f] at hj; cases hj
  cases dr with
  | false =>
    refine wp_region_seq Inv (hstart w (Below.refl _ _)) hfin (fun l a' w' hI i hi hnd hlow => ?_)
    have ho : ops[i]? = some ops[i] := Array.getElem?_eq_getElem hi
    refine hone l a' w' hI i _ ho hnd (fun e he hb => hlow e.on ?_)
    have h1 := List.all_eq_true.1 hdep (ops[i], i) (by
      rw [List.mem_zipIdx_iff_getElem?]
      simp [hi])
    have := Array.all_eq_true_iff_forall_mem.1 h1 e he
    rw [hb] at this
    simpa using this
  | true =>
    refine wp_region_inv hm Inv (hstart _ (Below.drew (Below.refl _ _))) (fun l a' w' hI hr => hfin l a' w' hI (fun j hj => all_listed4 hdep (by rw [hI.1.1, hlen]) hr j hj)) (fun l a' w' hI i hi => ?_)
    obtain ⟨h1, o, ho, hdeps⟩ := mem_ready.1 hi
    have hnd : flag l i = false := by
      have hs : i < l.size := by rw [hI.1.1, hlen]; exact (Array.getElem?_eq_some_iff.1 ho).1
      rw [Array.getD_eq_getD_getElem?, Array.getElem?_eq_getElem hs] at h1
      simp only [flag, Array.getD_eq_getD_getElem?, Array.getElem?_eq_getElem hs]
      simpa using h1
    exact hone l a' w' hI i o ho hnd hdeps
end Lm
end Go.Proofs.YtgfglefgpgckiaaDoor

namespace Go.Proofs.YtgfglefgpgckiaaDoor
namespace Lm
open Go Go.RowKit
theorem Ag.rl {w w' : World} {ng : Bool} {ao : Option Addr} {n cap : Nat} {xs : List Int} {z : Int} (h : Ag w ng ao n cap xs z) (hr : Rl w w') : Ag w' ng ao n cap xs z := ⟨h.sl.rl hr, h.worth⟩
theorem Got.rl {w w' : World} {ao : Option Addr} {cap : Nat} {rs : List Int} {x : Int} (h : Got w ao cap rs x) (hr : Rl w w') : Got w' ao cap rs x := ⟨h.1.rl hr, h.2⟩
theorem Wh.rl {w w' : World} {ng : Bool} {ao : Option Addr} {cap : Nat} {rs : List Int} {z : Int} (h : Wh w ng ao cap rs z) (hr : Rl w w') : Wh w' ng ao cap rs z := ⟨Got.rl h.1 hr, h.2⟩
def NeOld : List Bx → Nat → Prop
  | [], _ => True
  | b :: bx, g => (b.ia = none → b.g0 ≠ g) ∧ NeOld bx g
theorem NeOld.all : ∀ {bx : List Bx} {g : Nat}, NeOld bx g → ∀ b ∈ bx, b.ia = none → b.g0 ≠ g
  | [], _, _ => fun c hc => by cases hc
  | b :: bx, g, h => fun c hc => by
    rcases List.mem_cons.1 hc with rfl | hc
    · exact h.1
    · exact NeOld.all h.2 c hc
theorem BoxV.keep {τ : BoxTy} {bx : List Bx} {w w' : World} {g : Nat} {v : Value} (h : BoxV τ w g v) (hb : But bx w w') (hn : NeOld bx g) : BoxV τ w' g v := by
  obtain ⟨cs, hc, h⟩ := h
  exact ⟨cs, hc, (hb.keep g (lt_of_heap h) hn.all).trans h⟩
def DisOld : List Bx → Prop
  | [] => True
  | b :: bx => (b.ia = none → NeOld bx b.g0) ∧ DisOld bx
theorem DisOld.all : ∀ {bx : List Bx}, DisOld bx → ∀ (k k' : Nat) (b b' : Bx), bx[k]? = some b → bx[k']? = some b' → k ≠ k' → b.ia = none → b'.ia = none → b.g0 ≠ b'.g0
  | c :: bx, h, k, k', b, b', hk, hk', hne, hi, hi' => by
    cases k with
    | zero =>
      simp only [List.getElem?_cons_zero, Option.some.injEq] at hk
      subst hk
      cases k' with
      | zero => exact absurd rfl hne
      | succ k' => exact fun e => NeOld.all (h.1 hi) b' (List.mem_of_getElem? (by simpa using hk')) hi' e.symm
    | succ k =>
      cases k' with
      | zero =>
        simp only [List.getElem?_cons_zero, Option.some.injEq] at hk'
        subst hk'
        exact fun e => NeOld.all (h.1 hi') b (List.mem_of_getElem? (by simpa using hk)) hi e
      | succ k' => exact DisOld.all h.2 k k' b b' (by simpa using hk) (by simpa using hk') (fun e => hne (by rw [e])) hi hi'
def UpOld (B : Nat) : List Bx → Prop
  | [] => True
  | b :: bx => (b.ia = none → B ≤ b.g0) ∧ UpOld B bx
theorem UpOld.all {B : Nat} : ∀ {bx : List Bx}, UpOld B bx → ∀ b ∈ bx, b.ia = none → B ≤ b.g0
  | [], _ => fun c hc => by cases hc
  | b :: bx, h => fun c hc => by
    rcases List.mem_cons.1 hc with rfl | hc
    · exact h.1
    · exact UpOld.all h.2 c hc
def IsOld (a : Act) (w : World) : List Bx → Prop
  | [] => True
  | b :: bx => (b.ia = none → a.eval (.tmp b.d) = .pointer (some ⟨b.g0, 0, none⟩) ∧ BoxV b.τ w b.g0 b.v0) ∧ IsOld a w bx
theorem IsOld.all {a : Act} {w : World} : ∀ {bx : List Bx}, IsOld a w bx → ∀ b ∈ bx, b.ia = none → a.eval (.tmp b.d) = .pointer (some ⟨b.g0, 0, none⟩) ∧ BoxV b.τ w b.g0 b.v0
  | [], _ => fun c hc => by cases hc
  | b :: bx, h => fun c hc => by
    rcases List.mem_cons.1 hc with rfl | hc
    · exact h.1
    · exact IsOld.all h.2 c hc
theorem ok_nil {P : Program} : ∀ b ∈ ([] : List Bx), BoxOk P b.τ := fun _ h => by cases h
theorem ok_cons {P : Program} {b : Bx} {bx : List Bx} (h : BoxOk P b.τ) (t : ∀ b ∈ bx, BoxOk P b.τ) : ∀ b' ∈ b :: bx, BoxOk P b'.τ := fun b' hm => by
  rcases List.mem_cons.1 hm with rfl | hm
  · exact h
  · exact t b' hm
theorem Eqs.mono4 (x : Value) : Mono4 (Eqs x) := fun _ _ _ _ h => h
theorem True.mono4 : Mono4 (fun _ _ => True) := fun _ _ _ _ h => h
section
variable {dst : Option Tmp} {ty : TypeId} {pos : String} {after : Array Edge} {guard : Option (Nat × Bool)} {a : Act} {w : World} {ats : Array TypeId} {i j k g : Nat} {x y z : Int} {L L1 L2 : Nat}
theorem op_loadv {P : Program} {τ : BoxTy} {v : Value} (hτ : BoxOk P τ) (hp : a.eval (.tmp k) = .pointer (some ⟨g, 0, none⟩)) (hb : BoxV τ w g v) :
    Does P { dst, op := .load τ.T (.tmp k), type := ty, pos, after, guard } a.eval w fun v' w' => Below w.heap.size w w' ∧ Eqs v v' w' :=
  does_load (by rw [hp]; exact hτ.load w g v hb) ⟨Below.refl _ _, rfl⟩
end
end Lm
end Go.Proofs.YtgfglefgpgckiaaDoor

namespace Go.Proofs.YtgfglefgpgckiaaDoor
namespace Lm
open Go Go.RowKit
def IsL (x : Int) (L : Nat) : Says := fun v w => ∃ ao n cap xs, v = .slice ao n cap ∧ Sl w (.slice ao n cap) xs ∧ val xs = x ∧ xs.length ≤ L
def OutL (x : Int) (L : Nat) : Says := fun v w => ∃ ao cap rs, v = .slice ao rs.length cap ∧ Got w ao cap rs x ∧ rs.length ≤ L
theorem OutL.mono4 (x : Int) (L : Nat) : Mono4 (OutL x L) := fun _ _ _ hr ⟨ao, cap, rs, e, h, l⟩ => ⟨ao, cap, rs, e, h.rl hr, l⟩
theorem OutL.is {x : Int} {L : Nat} {v : Value} {w : World} : OutL x L v w → IsL x L v w := fun ⟨ao, cap, rs, e, h, l⟩ => ⟨ao, rs.length, cap, rs, e, h.1, h.2.2, l⟩
theorem someNe {α : Type} {x : α} {p : Prop} (h : some x = none) : p := by cases h
theorem then_ret {next : Act → World → Prop} {Q : Exit → Act → World → Prop} {a : Act} {w : World} (h : Q .ret a w) : Exit.then next Q .ret a w := h
section
variable {next : Act → World → Prop} {Q : Exit → Act → World → Prop} {a : Act} {w : World} {id id' : Nat}
theorem block_ret (h : Q .ret a w) : Exit.inBlock id Q .ret a w := h
theorem scope_ret (h : Q .ret a w) : Exit.noGoto Q .ret a w := h
end
section
variable {P : Program} {dst : Option Tmp} {ty : TypeId} {pos : String} {after : Array Edge} {guard : Option (Nat × Bool)} {a : Act} {w : World} {ats : Array TypeId} {i j k g : Nat} {x y z : Int} {L L1 L2 : Nat}
theorem op_len {ao : Option Addr} {n c : Nat} (h : a.eval (.tmp i) = .slice ao n c) : Does Tryd.prog { dst, op := .call { callee := .builtin .len, args := #[.tmp i], argTypes := #[49] }, type := ty, pos, after, guard } a.eval w fun v' w' => Below w.heap.size w w' ∧ Eqs (.int .i64 n) v' w' := by
  have e : (execOp a.eval { dst, op := .call { callee := .builtin .len, args := #[.tmp i], argTypes := #[49] }, type := ty, pos, after, guard }).run Tryd.prog w = .ok (.value (.int .i64 n)) w := by
    have h' : a.tmps[i]?.getD undef = .slice ao n c := by simpa [Act.eval] using h
    simp [go_sem, h']
  refine ⟨?_⟩
  unfold Turns
  rw [e]
  exact ⟨Below.refl _ _, rfl⟩
end
theorem res_t {P : Program} {fn : Func} {a : Act} {w : World} {k : Nat} {v : Value} (hr : fn.results = #[.tmp k]) (hp : a.eval (.tmp k) = v) : (results fn a.tmps).run P w = .ok v w := by
  have hp' : a.tmps[k]?.getD undef = v := by simpa [Act.eval] using hp
  simp [results, hr, hp']
end Lm
end Go.Proofs.YtgfglefgpgckiaaDoor

namespace Go.Proofs.YtgfglefgpgckiaaDoor
namespace Lm
open Go Go.RowKit
def IsR (p q : Int) (L : Nat) : Says := fun v w => ∃ ng ao n cap xs bo m dap ys, v = .agg #[.bool ng, .slice ao n cap, .slice bo m dap] ∧ Ag w ng ao n cap xs p ∧ Sl w (.slice bo m dap) ys ∧ val ys = q ∧ xs.length ≤ L ∧ ys.length ≤ L
def OutR (p q : Int) (L : Nat) : Says := fun v w => ∃ ng ao cap rs bo dap ss, v = .agg #[.bool ng, .slice ao rs.length cap, .slice bo ss.length dap] ∧ Wh w ng ao cap rs p ∧ Got w bo dap ss q ∧ rs.length ≤ L ∧ ss.length ≤ L
theorem OutR.is {p q : Int} {L : Nat} {v : Value} {w : World} : OutR p q L v w → IsR p q L v w := fun ⟨ng, ao, cap, rs, bo, dap, ss, e, h1, h2, l1, l2⟩ => ⟨ng, ao, rs.length, cap, rs, bo, ss.length, dap, ss, e, h1.ag, h2.1, h2.2.2, l1, l2⟩
section
variable {dst : Option Tmp} {ty : TypeId} {pos : String} {after : Array Edge} {guard : Option (Nat × Bool)} {a : Act} {w : World} {ats : Array TypeId} {i j k g : Nat} {x y z p q : Int} {L L1 L2 : Nat}
end
end Lm
end Go.Proofs.YtgfglefgpgckiaaDoor

namespace Go.Proofs.YtgfglefgpgckiaaDoor
namespace Lm
open Go Go.RowKit
def tq (q : Int) : Int := if q = 0 then 1 else q
end Lm
end Go.Proofs.YtgfglefgpgckiaaDoor

namespace Go.Proofs.YtgfglefgpgckiaaDoor
namespace Lm
open Go.RowKit
open Classical in
noncomputable def worth (w : World) (v : Value) : Nat := if h : ∃ r, Sl w v r then (val (Classical.choose h)).toNat else 0
end Lm
end Go.Proofs.YtgfglefgpgckiaaDoor

namespace Go.Proofs.YtgfglefgpgckiaaDoor
namespace Dm
open Go.RowKit
open Lm (hide)
def Dl (B : Nat) (w : World) (v : Value) (x : Int) (n : Nat) : Prop := ∃ ds, Ow B w v ds ∧ val ds = x ∧ ds.length ≤ n
end Dm
end Go.Proofs.YtgfglefgpgckiaaDoor

namespace Go.Proofs.YtgfglefgpgckiaaDoor
namespace Dm
open Go.RowKit
open Lm (hide lt_of_cell lt_of_heap)
def Wh (w : World) (ng : Bool) (ao : Option Addr) (cap : Nat) (rs : List Int) (z : Int) : Prop := Got w ao cap rs (z.natAbs : Int) ∧ ng = decide (z < 0)
theorem Wh.below {w w' : World} {ng : Bool} {ao : Option Addr} {cap : Nat} {rs : List Int} {z : Int} (h : Wh w ng ao cap rs z) (hb : Below w.heap.size w w') : Wh w' ng ao cap rs z := ⟨h.1.below hb, h.2⟩
def Box (w : World) (g : Nat) (ng : Bool) (v : Value) : Prop := w.heap[g]? = some (.cells #[.bool ng, v] 86 (0, 0))
theorem Box.facts {w : World} {g : Nat} {ng : Bool} {v : Value} (h : Box w g ng v) : w.cell? ⟨g, 0, none⟩ = some (.bool ng) ∧ w.cell? ⟨g, 1, none⟩ = some v ∧ w.frozen? ⟨g, 0, none⟩ = false ∧ w.frozen? ⟨g, 1, none⟩ = false :=
  ⟨by rw [cell_of_row _ _ _ _ _ (0, 0) h]; rfl, by rw [cell_of_row _ _ _ _ _ (0, 0) h]; rfl, frozen_of_row _ _ _ _ _ h, frozen_of_row _ _ _ _ _ h⟩
theorem Box.set {w : World} {g : Nat} {ng : Bool} {v : Value} (h : Box w g ng v) (b : Bool) (u : Value) : Box ((w.setCell ⟨g, 0, none⟩ (.bool b)).setCell ⟨g, 1, none⟩ u) g b u := by
  have h1 := heap_setCell_same w g 0 _ _ (.bool b) h
  have h2 := heap_setCell_same _ g 1 _ _ u h1
  exact h2
end Dm
end Go.Proofs.YtgfglefgpgckiaaDoor

namespace Go.Proofs.YtgfglefgpgckiaaDoor
namespace Dm
open Go Go.RowKit
theorem Sl.rl {w w' : World} {v : Value} {zs : List Int} (h : Sl w v zs) (hr : Lm.Rl w w') : Sl w' v zs := by
  obtain ⟨ao, cap, rfl, h1, h2, h3, h4⟩ := h
  refine ⟨ao, cap, rfl, h1, h2, h3, ?_⟩
  rcases h4 with h4 | ⟨b, off, rfl, hc⟩
  · exact .inl h4
  · exact .inr ⟨b, off, rfl, fun i hi => hr.ints _ _ _ (hc i hi)⟩
theorem Wh.rl {w w' : World} {ng : Bool} {ao : Option Addr} {cap : Nat} {rs : List Int} {z : Int} (h : Wh w ng ao cap rs z) (hr : Lm.Rl w w') : Wh w' ng ao cap rs z := ⟨⟨h.1.1.rl hr, h.1.2⟩, h.2⟩
theorem pw_small (n : Nat) : pw n ≤ Lm.pw n := by
  induction n with
  | zero => simp [pw, Lm.pw]
  | succ n ih =>
    have := pw_pos n
    simp only [pw, Lm.pw]
    omega
theorem Wh.bound {w : World} {ng : Bool} {ao : Option Addr} {cap : Nat} {rs : List Int} {z : Int} {L : Nat} (h : Wh w ng ao cap rs z) (hl : rs.length ≤ L) : (z.natAbs : Int) < Lm.pw L := by
  have h1 := (val_bounds h.1.canon.1).2
  rw [h.1.val] at h1
  have h2 := pw_mono hl
  have h3 := pw_small L
  omega
end Dm
namespace Lm
open Go Go.RowKit
def N2 : BoxTy := ⟨86, .agg #[.bool false, .slice none 0 0], fun v cs => ∃ ng ao n c, v = .agg #[.bool ng, .slice ao n c] ∧ cs = #[.bool ng, .slice ao n c]⟩
theorem N2ok : BoxOk Tryd.prog N2 where
  noInt := by
    rintro v cs ⟨ng, ao, n, c, rfl, rfl⟩ i k z
    match i with
    | 0 => simp
    | 1 => simp
    | i + 2 => simp
  ne := by unfold N2; exact ⟨by decide, by decide⟩
  alloc := fun w => ⟨#[.bool false, .slice none 0 0], ⟨_, _, _, _, rfl, rfl⟩, by unfold N2; go_simp⟩
  box := by
    rintro w v ⟨cs, ng, ao, n, c, rfl, rfl⟩
    exact ⟨_, ⟨_, _, _, _, rfl, rfl⟩, by unfold N2; go_simp⟩
  store := by
    rintro w g v0 v ⟨cs0, ⟨m, bo, p, d, rfl, rfl⟩, hh⟩ ⟨cs, ng, ao, n, c, rfl, rfl⟩
    have hb : Dm.Box w g m (.slice bo p d) := hh
    obtain ⟨b1, b2, b3, b4⟩ := hb.facts
    refine ⟨(w.setCell ⟨g, 0, none⟩ (.bool ng)).setCell ⟨g, 1, none⟩ (.slice ao n c), ?_, ⟨_, ⟨_, _, _, _, rfl, rfl⟩, hb.set ng (.slice ao n c)⟩, ⟨rfl, rfl, rfl, by simp [World.setCell], fun k hk => ?_⟩⟩
    · unfold N2
      go_simp
    · rw [Below.heap_setCell _ _ _ _ (by simpa using hk), Below.heap_setCell _ _ _ _ (by simpa using hk)]
  load := by
    rintro w g v ⟨cs, ⟨ng, ao, n, c, rfl, rfl⟩, hh⟩
    obtain ⟨b1, b2, b3, b4⟩ := (show Dm.Box w g ng (.slice ao n c) from hh).facts
    unfold N2
    go_simp
def OutN (z : Int) (L : Nat) : Says := fun v w => ∃ ng ao cap rs, v = .agg #[.bool ng, .slice ao rs.length cap] ∧ Dm.Wh w ng ao cap rs z ∧ rs.length ≤ L
theorem n2_cs {ng : Bool} {ao : Option Addr} {n c : Nat} : ∃ cs, N2.Cs (.agg #[.bool ng, .slice ao n c]) cs := ⟨_, _, _, _, _, rfl, rfl⟩
theorem outn_eq {v : Value} {w : World} {ng : Bool} {ao : Option Addr} {c : Nat} {rs : List Int} {z : Int} {L : Nat} (h : v = .agg #[.bool ng, .slice ao rs.length c]) (hA : Dm.Wh w ng ao c rs z) (hl : rs.length ≤ L) : OutN z L v w := ⟨_, _, _, _, h, hA, hl⟩
theorem n2_row {w : World} {g : Nat} {ng : Bool} {ao : Option Addr} {n c : Nat} (h : BoxV N2 w g (.agg #[.bool ng, .slice ao n c])) : Dm.Box w g ng (.slice ao n c) := by
  obtain ⟨cs, ⟨_, _, _, _, e, rfl⟩, h⟩ := h
  simp only [Value.agg.injEq] at e
  simp only [Array.mk.injEq, List.cons.injEq, Value.bool.injEq, Value.slice.injEq, and_true] at e
  obtain ⟨rfl, rfl, rfl, rfl⟩ := e
  exact h
section
variable {dst : Option Tmp} {ty : TypeId} {pos : String} {after : Array Edge} {guard : Option (Nat × Bool)} {a : Act} {w : World} {ats : Array TypeId} {i j k g : Nat} {x y z p q : Int} {L L1 L2 : Nat}
theorem op_faN {f off : Nat} (hf : ∀ w : World, (Instr.fieldAt 86 (.pointer (some ⟨g, 0, none⟩)) f).run Tryd.prog w = .ok (.pointer (some ⟨g, off, none⟩)) w) (hp : a.eval (.tmp k) = .pointer (some ⟨g, 0, none⟩)) :
    Does Tryd.prog { dst, op := .fieldAddr 86 (.tmp k) f, type := ty, pos, after, guard } a.eval w fun v' w' => Below w.heap.size w w' ∧ Eqs (.pointer (some ⟨g, off, none⟩)) v' w' := by
  refine ⟨?_⟩
  unfold Turns
  simp only [execOp, hp]
  simp [hf]
  exact ⟨Below.refl _ _, rfl⟩
theorem has_nlimbs : Has Tryd.prog 70 := by unfold Has; kernel_rfl
end
end Lm
end Go.Proofs.YtgfglefgpgckiaaDoor

namespace Go.Proofs.YtgfglefgpgckiaaDoor
namespace Lm
open Go Go.RowKit
section
variable {dst : Option Tmp} {ty : TypeId} {pos : String} {after : Array Edge} {guard : Option (Nat × Bool)} {a : Act} {w : World} {ats : Array TypeId} {i k g : Nat} {x z u v : Int} {L : Nat}
theorem op_nlimbsa (h : OutN z L (a.eval (.tmp i)) w) (hL : L ≤ 1000000) :
    Does Tryd.prog { dst, op := .call { callee := .value (.func 70), args := #[.tmp i], argTypes := ats }, type := ty, pos, after, guard } a.eval w fun v w' => Below w.heap.size w w' ∧ OutL (z.natAbs : Int) L v w' := by
  obtain ⟨ng, ao, cap, rs, e1, W, l⟩ := h
  have hb := W.bound l
  refine does_call has_nlimbs _ (by simp only [List.map_toArray, List.map_cons, List.map_nil, e1]) ((Dm.limbs_any w ng ao cap rs _ W.1 L hb hL (by omega)).mono ?_)
  rintro e w' ⟨v, rfl, I, hb'⟩
  obtain ⟨ao, cap, rs, rfl, G⟩ := I.got
  exact ⟨_, rfl, hb', _, _, _, rfl, G, canon_len G.canon (by rw [G.val]; exact hb)⟩
theorem fa_ndig (w : World) : (Instr.fieldAt 86 (.pointer (some ⟨g, 0, none⟩)) 1).run Tryd.prog w = .ok (.pointer (some ⟨g, 1, none⟩)) w := by go_simp
theorem op_ldndig {ng : Bool} {ao : Option Addr} {n c : Nat} (hp : a.eval (.tmp k) = .pointer (some ⟨g, 1, none⟩)) (hb : BoxV N2 w g (.agg #[.bool ng, .slice ao n c])) :
    Does Tryd.prog { dst, op := .load 40 (.tmp k), type := ty, pos, after, guard } a.eval w fun v' w' => Below w.heap.size w w' ∧ Eqs (.slice ao n c) v' w' := by
  obtain ⟨b1, b2, b3, b4⟩ := (n2_row hb).facts
  refine does_load (v := .slice ao n c) ?_ ⟨Below.refl _ _, rfl⟩
  rw [hp]
  go_simp
theorem op_leni {ao : Option Addr} {n c : Nat} (h : a.eval (.tmp i) = .slice ao n c) : Does Tryd.prog { dst, op := .call { callee := .builtin .len, args := #[.tmp i], argTypes := #[40] }, type := ty, pos, after, guard } a.eval w fun v' w' => Below w.heap.size w w' ∧ Eqs (.int .i64 n) v' w' := by
  have e : (execOp a.eval { dst, op := .call { callee := .builtin .len, args := #[.tmp i], argTypes := #[40] }, type := ty, pos, after, guard }).run Tryd.prog w = .ok (.value (.int .i64 n)) w := by
    have h' : a.tmps[i]?.getD undef = .slice ao n c := by simpa [Act.eval] using h
    simp [go_sem, h']
  refine ⟨?_⟩
  unfold Turns
  rw [e]
  exact ⟨Below.refl _ _, rfl⟩
theorem op_lenL {m : Nat} (h : OutL x L (a.eval (.tmp i)) w) (hm : IsLen x m) : Does Tryd.prog { dst, op := .call { callee := .builtin .len, args := #[.tmp i], argTypes := #[49] }, type := ty, pos, after, guard } a.eval w fun v' w' => Below w.heap.size w w' ∧ Eqs (.int .i64 m) v' w' := by
  obtain ⟨ao, cap, rs, e, G, l⟩ := h
  have hl : rs.length = m := isLen_one ⟨rs, G.canon, G.val, rfl⟩ hm
  exact (op_len e).mono (fun v' w' ⟨hb, e⟩ => ⟨hb, by rw [Eqs, show v' = _ from e, hl]⟩)
theorem op_lssk (h1 : a.eval (.tmp i) = .int .i64 u) :
    Does Tryd.prog { dst, op := .binOp .lss 3 (.tmp i) (.const (.int .i64 v)) 3, type := ty, pos, after, guard } a.eval w fun v' w' => Below w.heap.size w w' ∧ Eqs (.bool (decide (u < v))) v' w' := by
  refine does_bin (v := .bool (decide (u < v))) ?_ ?_ ⟨Below.refl _ _, rfl⟩
  · rw [h1]; simp [go_sem, Act.eval]
  · rw [h1]; simp [go_sem, Act.eval]
end
set_option maxRecDepth 20000 in
set_option maxHeartbeats 2000000 in
theorem nlong_z (w : World) (Bx : Nat) (nx : Bool) (ax : Option Addr) (cx : Nat) (xs : List Int) (zx : Int) (Gx : Dm.Wh w nx ax cx xs zx) (Lx : xs.length ≤ Bx) (hL : Bx ≤ 1000000) (m : Nat) (hm : IsLen (zx.natAbs : Int) m) :
    Calls Tryd.prog 62 #[.agg #[.bool nx, .slice ax xs.length cx]] w fun e w' => ∃ v, e = .returned v ∧ (Eqs (.int .i64 (m : Int))) v w' ∧ Below w.heap.size w w' := by
  go_enter Tryd.func62, Tryd.ntmps62
  generalize hA : (Act.mk _ _) = aa
  have hn : aa.tmps.size = 13 := by rw [← hA]; rfl
  have hd : aa.defers = [] := by rw [← hA]
  have f0 : aa.eval (.tmp 0) = .agg #[.bool nx, .slice ax xs.length cx] := by rw [← hA]; rfl
  clear hA
  have HB : Below w.heap.size w w := Below.refl _ _
  refine wp_seq ?_
  refine region4 [some 1, some 2] [(fun _ _ => True), Eqs ((.int .i64 0))] [⟨N2, some 0, 0, 1, .agg #[.bool nx, .slice ax xs.length cx], none, []⟩] [] (by kernel_rfl) hn rfl (by kernel_rfl) (by kernel_rfl) (by kernel_rfl) (by kernel_rfl) (by kernel_rfl) (by kernel_rfl) ⟨True.mono4, Eqs.mono4 _, trivial⟩ (ok_cons N2ok ok_nil) (IsOld.all (bx := [⟨N2, some 0, 0, 1, .agg #[.bool nx, .slice ax xs.length cx], none, []⟩]) ⟨someNe, trivial⟩) (DisOld.all (bx := [⟨N2, some 0, 0, 1, .agg #[.bool nx, .slice ax xs.length cx], none, []⟩]) ⟨someNe, trivial⟩) ?_ ?_
  · exact ⟨.alloc 0 _ rfl rfl (.inr ⟨_, rfl, n2_cs, fun a_ hR => (hR 0 rfl).trans f0⟩) rfl rfl rfl rfl rfl,
      .norm 2 rfl rfl rfl (fun a_ w_ hn_ hBt hr hR hD hO hS => op_assign rfl),
      trivial⟩
  · intro a1 w1 gs1 hn1 hd1 hBt hr hR hP hX hU
    replace hn := hn1; replace hd := hd1.trans hd
    have b1 : BoxV N2 w1 (gs1 0) (.agg #[.bool nx, .slice ax xs.length cx]) := (hX 0 _ rfl).2.2.2
    have f1 := (hX 0 _ rfl).1
    have u1 : w.heap.size ≤ gs1 0 := Nat.le_trans HB.size ((hX 0 _ rfl).2.2.1 (by simp))
    have e2 : a1.eval (.tmp 2) = (.int .i64 0) := hP 1 (by decide)
    have f2 := e2
    replace Gx := Gx.rl hr
    replace HB := HB.trans (hBt.below HB.size (UpOld.all (bx := [⟨N2, some 0, 0, 1, .agg #[.bool nx, .slice ax xs.length cx], none, []⟩]) ⟨someNe, trivial⟩))
    clear hBt hr hR hP hX hU
    refine wp_seq ?_
    refine wp_seq ?_
    refine region4 [some 3, some 4, some 5, some 6] [Eqs (.pointer (some ⟨gs1 0, 1, none⟩)), Eqs (.slice ax xs.length cx), Eqs (.int .i64 (xs.length : Int)), Eqs (.bool (decide ((xs.length : Int) < 3)))] [] [] (by kernel_rfl) hn rfl (by kernel_rfl) (by kernel_rfl) (by kernel_rfl) (by kernel_rfl) (by kernel_rfl) (by kernel_rfl) ⟨Eqs.mono4 _, Eqs.mono4 _, Eqs.mono4 _, Eqs.mono4 _, trivial⟩ ok_nil (IsOld.all (bx := []) trivial) (DisOld.all (bx := []) trivial) ?_ ?_
    · exact ⟨.norm 3 rfl rfl rfl (fun a_ w_ hn_ hBt hr hR hD hO hS => op_faN fa_ndig ((hR 1 rfl).trans f1)),
        .norm 4 rfl rfl rfl (fun a_ w_ hn_ hBt hr hR hD hO hS => op_ldndig (show a_.eval (.tmp 3) = .pointer (some ⟨gs1 0, 1, none⟩) from hD 0 rfl) (b1.keep hBt trivial)),
        .norm 5 rfl rfl rfl (fun a_ w_ hn_ hBt hr hR hD hO hS => op_leni (show a_.eval (.tmp 4) = .slice ax xs.length cx from hD 1 rfl)),
        .norm 6 rfl rfl rfl (fun a_ w_ hn_ hBt hr hR hD hO hS => op_lssk (show a_.eval (.tmp 5) = .int .i64 (xs.length : Int) from hD 2 rfl)),
        trivial⟩
    · intro a2 w2 gs2 hn2 hd2 hBt hr hR hP hX hU
      replace hn := hn2; replace hd := hd2.trans hd
      replace b1 := b1.keep hBt trivial
      replace f1 := (hR 1 rfl).trans f1
      replace f2 := (hR 2 rfl).trans f2
      have e6 : a2.eval (.tmp 6) = .bool (decide ((xs.length : Int) < 3)) := hP 3 (by decide)
      have f6 := e6
      replace Gx := Gx.rl hr
      replace HB := HB.trans (hBt.below HB.size (UpOld.all (bx := []) trivial))
      clear hBt hr hR hP hX hU
      refine wp_cond_split f6 (fun hc6 => ?_) (fun hc6 => ?_)
      · skip
        refine wp_seq ?_
        refine region4 [some 7, some 8, some 9, some 2] [Eqs (.agg #[.bool nx, .slice ax xs.length cx]), OutL (((zx).natAbs : Int)) (Bx), Eqs (.int .i64 (m : Int)), Eqs (.int .i64 (m : Int))] [] [] (by kernel_rfl) hn rfl (by kernel_rfl) (by kernel_rfl) (by kernel_rfl) (by kernel_rfl) (by kernel_rfl) (by kernel_rfl) ⟨Eqs.mono4 _, OutL.mono4 _ _, Eqs.mono4 _, Eqs.mono4 _, trivial⟩ ok_nil (IsOld.all (bx := []) trivial) (DisOld.all (bx := []) trivial) ?_ ?_
        · exact ⟨.norm 7 rfl rfl rfl (fun a_ w_ hn_ hBt hr hR hD hO hS => op_loadv N2ok ((hR 1 rfl).trans f1) (b1.keep hBt trivial)),
            .norm 8 rfl rfl rfl (fun a_ w_ hn_ hBt hr hR hD hO hS => op_nlimbsa (outn_eq (show a_.eval (.tmp 7) = .agg #[.bool nx, .slice ax xs.length cx] from hD 0 rfl) (Gx.rl hr) Lx) (by omega)),
            .norm 9 rfl rfl rfl (fun a_ w_ hn_ hBt hr hR hD hO hS => op_lenL (show OutL (((zx).natAbs : Int)) (Bx) (a_.eval (.tmp 8)) w_ from hD 1 rfl) hm),
            .norm 2 rfl rfl rfl (fun a_ w_ hn_ hBt hr hR hD hO hS => op_assign (show a_.eval (.tmp 9) = .int .i64 (m : Int) from hD 2 rfl)),
            trivial⟩
        · intro a3 w3 gs3 hn3 hd3 hBt hr hR hP hX hU
          replace hn := hn3; replace hd := hd3.trans hd
          replace b1 := b1.keep hBt trivial
          replace f1 := (hR 1 rfl).trans f1
          have e2 : a3.eval (.tmp 2) = .int .i64 (m : Int) := hP 3 (by decide)
          have f2 := e2
          replace Gx := Gx.rl hr
          replace HB := HB.trans (hBt.below HB.size (UpOld.all (bx := []) trivial))
          clear hBt hr hR hP hX hU
          refine wp_ret ?_
          repeat (first | refine then_ret ?_ | refine scope_ret ?_ | refine block_ret ?_)
          exact bodyPost_ret (v := .int .i64 (m : Int)) (res_t rfl f2) hd ⟨_, rfl, rfl, HB⟩
      · skip
        refine wp_skip ?_
        refine wp_seq ?_
        refine region4 [some 10, some 11, some 12, some 2] [Eqs (.agg #[.bool nx, .slice ax xs.length cx]), OutL (((zx).natAbs : Int)) (Bx), Eqs (.int .i64 (m : Int)), Eqs (.int .i64 (m : Int))] [] [] (by kernel_rfl) hn rfl (by kernel_rfl) (by kernel_rfl) (by kernel_rfl) (by kernel_rfl) (by kernel_rfl) (by kernel_rfl) ⟨Eqs.mono4 _, OutL.mono4 _ _, Eqs.mono4 _, Eqs.mono4 _, trivial⟩ ok_nil (IsOld.all (bx := []) trivial) (DisOld.all (bx := []) trivial) ?_ ?_
        · exact ⟨.norm 10 rfl rfl rfl (fun a_ w_ hn_ hBt hr hR hD hO hS => op_loadv N2ok ((hR 1 rfl).trans f1) (b1.keep hBt trivial)),
            .norm 11 rfl rfl rfl (fun a_ w_ hn_ hBt hr hR hD hO hS => op_nlimbsa (outn_eq (show a_.eval (.tmp 10) = .agg #[.bool nx, .slice ax xs.length cx] from hD 0 rfl) (Gx.rl hr) Lx) (by omega)),
            .norm 12 rfl rfl rfl (fun a_ w_ hn_ hBt hr hR hD hO hS => op_lenL (show OutL (((zx).natAbs : Int)) (Bx) (a_.eval (.tmp 11)) w_ from hD 1 rfl) hm),
            .norm 2 rfl rfl rfl (fun a_ w_ hn_ hBt hr hR hD hO hS => op_assign (show a_.eval (.tmp 12) = .int .i64 (m : Int) from hD 2 rfl)),
            trivial⟩
        · intro a4 w4 gs4 hn4 hd4 hBt hr hR hP hX hU
          replace hn := hn4; replace hd := hd4.trans hd
          have e2 : a4.eval (.tmp 2) = .int .i64 (m : Int) := hP 3 (by decide)
          have f2 := e2
          replace Gx := Gx.rl hr
          replace HB := HB.trans (hBt.below HB.size (UpOld.all (bx := []) trivial))
          clear hBt hr hR hP hX hU
          refine wp_ret ?_
          repeat (first | refine then_ret ?_ | refine scope_ret ?_ | refine block_ret ?_)
          exact bodyPost_ret (v := .int .i64 (m : Int)) (res_t rfl f2) hd ⟨_, rfl, rfl, HB⟩
end Lm
end Go.Proofs.YtgfglefgpgckiaaDoor

namespace Go.Proofs.YtgfglefgpgckiaaDoor
namespace Lm
open Go Go.RowKit
def encL (c : Nat) : List UInt8 :=
  if c < 128 then [c.toUInt8] else if c < 2048 then [(192 + c / 64).toUInt8, (128 + c % 64).toUInt8]
  else if c < 65536 then [(224 + c / 4096).toUInt8, (128 + c / 64 % 64).toUInt8, (128 + c % 64).toUInt8]
  else [(240 + c / 262144).toUInt8, (128 + c / 4096 % 64).toUInt8, (128 + c / 64 % 64).toUInt8, (128 + c % 64).toUInt8]
theorem encL_len (c : Nat) : (encL c).length = if c < 128 then 1 else if c < 2048 then 2 else if c < 65536 then 3 else 4 := by
  unfold encL; repeat' split
  all_goals simp
def encs : List Nat → List UInt8
  | [] => []
  | c :: cs => encL c ++ encs cs
def Cod (c : Nat) : Prop := c ≤ 1114111 ∧ (c < 55296 ∨ 57343 < c)
theorem encL_pos (c : Nat) : 1 ≤ (encL c).length ∧ (encL c).length ≤ 4 := by
  rw [encL_len]; repeat' split
  all_goals omega
def adv (p : Pl) : List Nat → Pl
  | [] => p
  | c :: cs => adv (p.past c (encL c).length) cs
def glf (p : Pl) : List Nat → List Gl
  | [] => []
  | c :: cs => ⟨c, p⟩ :: glf (p.past c (encL c).length) cs
theorem glf_len (p : Pl) (cs : List Nat) : (glf p cs).length = cs.length := by
  induction cs generalizing p with
  | nil => rfl
  | cons c cs ih => simp [glf, ih]
theorem adv_b (p : Pl) (cs : List Nat) : (adv p cs).b = p.b + (encs cs).length := by
  induction cs generalizing p with
  | nil => simp [adv, encs]
  | cons c cs ih => simp only [adv, encs, ih, List.length_append, Pl.past]; omega
end Lm
end Go.Proofs.YtgfglefgpgckiaaDoor

