/-
  Regions as Inv8 has them; besides it is kept between which two sizes of memory each answer was made, and the last operation may be shown by hand. No function is named here.
-/
import Derived.Test.YtjhhjefobbhdlaaInv8
namespace Go.Proofs.Ytjhhjefobbhdlaa
namespace Lm
open Go Go.RowKit

/-- What is said of an answer that was made between two sizes of memory. -/
abbrev SaysI := Nat → Nat → Value → World → Prop
def TrI : SaysI := fun _ _ _ _ => True
def Mono6 (p : SaysI) : Prop := ∀ B T v w w', Ru w w' → p B T v w → p B T v w'
theorem TrI.mono6 : Mono6 TrI := fun _ _ _ _ _ _ _ => trivial
def Mono6s : List SaysI → Prop
  | [] => True
  | p :: ps => Mono6 p ∧ Mono6s ps
theorem Mono6s.at {ps : List SaysI} (h : Mono6s ps) (j : Nat) : Mono6 (ps.getD j TrI) := by
  induction ps generalizing j with
  | nil => intro B T v w w' _ _; simp [TrI]
  | cons p ps ih =>
    cases j with
    | zero => simpa using h.1
    | succ j => simpa using ih h.2 j

/-- What holds between the values of two operations. -/
def Rel (Ds : List (Option Nat)) (Rs : List (Nat × Nat × (Value → Value → Prop))) (i : Nat) (a : Act) (v : Value) : Prop := ∀ r ∈ Rs, r.1 = i → r.2.2 (rd Ds a r.2.1) v
theorem Rel.none {Ds : List (Option Nat)} {Rs : List (Nat × Nat × (Value → Value → Prop))} {i : Nat} (h : (Rs.all fun r => r.1 != i) = true) (a : Act) (v : Value) : Rel Ds Rs i a v := fun r hr e => by
  have := List.all_eq_true.1 h r hr
  simp [e] at this
def Rels (k0 : Nat) (Ds : List (Option Nat)) (Rs : List (Nat × Nat × (Value → Value → Prop))) (l : Array Bool) (a : Act) : Prop := ∀ r ∈ Rs, k0 ≤ r.1 → flag l r.1 = true → flag l r.2.1 = true ∧ r.2.2 (rd Ds a r.2.1) (rd Ds a r.1)

def Ivl (k0 : Nat) (Ds : List (Option Nat)) (Gs : List SaysI) (Rs : List (Nat × Nat × (Value → Value → Prop))) (w0 : World) (l : Array Bool) (a : Act) (w : World) (B T : Nat → Nat) : Prop :=
  Rels k0 Ds Rs l a ∧ ∀ i, k0 ≤ i → flag l i = true → w0.heap.size ≤ B i ∧ B i ≤ T i ∧ T i ≤ w.heap.size ∧ Gs.getD i TrI (B i) (T i) (rd Ds a i) w ∧ ∀ j, k0 ≤ j → flag l j = true → i ≠ j → T i ≤ B j ∨ T j ≤ B i

theorem Ivl.step {k0 : Nat} {Ds : List (Option Nat)} {Gs : List SaysI} {Rs : List (Nat × Nat × (Value → Value → Prop))} {w0 : World} {l : Array Bool} {a a' : Act} {w w' : World} {B T : Nat → Nat} {i : Nat} (h : Ivl k0 Ds Gs Rs w0 l a w B T) (hM : Mono6s Gs) (_hil : i < l.size) (hs0 : w0.heap.size ≤ w.heap.size) (hs : w.heap.size ≤ w'.heap.size) (hu : Ru w w') (hrd : ∀ j, j ≠ i → flag l j = true → rd Ds a' j = rd Ds a j) (hp : Gs.getD i TrI w.heap.size w'.heap.size (rd Ds a' i) w') (hnd : flag l i = false) (hrel : Rel Ds Rs i a (rd Ds a' i)) (hwr : ∀ r ∈ Rs, r.1 = i → flag l r.2.1 = true) :
    Ivl k0 Ds Gs Rs w0 (l.setIfInBounds i true) a' w' (fun j => if j = i then w.heap.size else B j) (fun j => if j = i then w'.heap.size else T j) := by
  obtain ⟨hR, h⟩ := h
  refine ⟨fun r hr h0 hf => ?_, ?_⟩
  · by_cases e : r.1 = i
    · have h2 := hwr r hr e
      have hne : r.2.1 ≠ i := fun e' => by rw [e', hnd] at h2; cases h2
      refine ⟨by rw [flag_set_ne hne]; exact h2, ?_⟩
      rw [hrd _ hne h2, e]
      exact hrel r hr e
    · rw [flag_set_ne e] at hf
      obtain ⟨h2, h3⟩ := hR r hr h0 hf
      have hne : r.2.1 ≠ i := fun e' => by rw [e', hnd] at h2; cases h2
      exact ⟨by rw [flag_set_ne hne]; exact h2, by rw [hrd _ hne h2, hrd _ e hf]; exact h3⟩
  intro k hk0 hk
  rcases flag_set hk with rfl | ⟨hne, hk⟩
  · simp only [if_true]
    refine ⟨hs0, hs, Nat.le_refl _, hp, fun j hj0 hj hne => ?_⟩
    rcases flag_set hj with rfl | ⟨hne', hj⟩
    · exact absurd rfl hne
    · simp only [if_neg hne']
      exact .inr (h j hj0 hj).2.2.1
  · simp only [if_neg hne]
    obtain ⟨h1, h2, h3, h4, h5⟩ := h k hk0 hk
    refine ⟨h1, h2, Nat.le_trans h3 hs, by rw [hrd k hne hk]; exact hM.at k _ _ _ _ _ hu h4, fun j hj0 hj hne' => ?_⟩
    rcases flag_set hj with rfl | ⟨hne'', hj⟩
    · simp only [if_true]
      exact .inl h3
    · simp only [if_neg hne'']
      exact h5 j hj0 hj hne'

theorem rd_put_same {Ds : List (Option Nat)} {a : Act} {i d n : Nat} {v : Value} (hi : Ds.getD i none = some d) (hd : d < n) (hn : a.tmps.size = n) : rd Ds (a.put (some d) v) i = v := by
  unfold rd
  rw [hi]
  exact eval_put_same (by omega)

/-- The obligation of one operation. -/
inductive Duty6 (P : Program) (n : Nat) (Ds : List (Option Nat)) (Ps : List Says) (Rs : List (Nat × Nat × (Value → Value → Prop))) (bx : List Bx) (Xt : List Xb) (Wt : List (Nat × Nat)) (a0 : Act) (w0 : World) (i : Nat) (o : Oper) (p : Says) (q : SaysI) : Prop
  | norm (d : Nat) (hd : o.dst = some d) (hD : Ds.getD i none = some d) (hx : ∀ q ∈ Xt, q.i ≠ i) (hb : (bx.all fun b => b.ia != some i && b.st.all fun q => q.1 != i) = true)
      (h : ∀ a w, a.tmps.size = n → But5 bx Xt w0 w → Ru w0 w → Rest4 Ds a0 a → Deps4 Ds Ps o a w → Olds bx i w → (∀ j d, Wt.contains (j, i) = true → Ds.getD j none = some d → a.eval (.tmp d) = a0.eval (.tmp d)) →
        match o.guard with
        | none => Does P o a.eval w fun v w' => Below w.heap.size w w' ∧ p v w' ∧ q w.heap.size w'.heap.size v w' ∧ Rel Ds Rs i a v
        | some (g, b) => (∃ dg, Ds.getD g none = some dg) ∧ (rd Ds a g = .bool b → Does P o a.eval w fun v w' => Below w.heap.size w w' ∧ p v w' ∧ q w.heap.size w'.heap.size v w' ∧ Rel Ds Rs i a v) ∧ (rd Ds a g ≠ .bool b → p undef w ∧ q w.heap.size w.heap.size undef w ∧ Rel Ds Rs i a undef))
  | touch (t : Xb) (hq : t ∈ Xt) (hi : t.i = i) (d : Nat) (hd : o.dst = some d) (hD : Ds.getD i none = some d) (hg : o.guard = none) (hb : (bx.all fun b => b.ia != some i && b.st.all fun q => q.1 != i) = true)
      (h : ∀ a w, a.tmps.size = n → But5 bx Xt w0 w → Ru w0 w → Rest4 Ds a0 a → Deps4 Ds Ps o a w → Olds bx i w → (∀ j d, Wt.contains (j, i) = true → Ds.getD j none = some d → a.eval (.tmp d) = a0.eval (.tmp d)) → w.heap[t.m]? = w0.heap[t.m]? →
        Does P o a.eval w fun v w' => Touch w w' t.m ∧ Ru w w' ∧ p v w' ∧ q w.heap.size w'.heap.size v w' ∧ Rel Ds Rs i a v ∧ t.S v w')
  | alloc (k : Nat) (b : Bx) (hk : bx[k]? = some b) (hi : b.ia = some i) (ho : (o.op = .alloc b.τ.T ∧ b.v0 = b.τ.zero) ∨ ∃ x, o.op = .box b.τ.T x ∧ (∃ cs, b.τ.Cs b.v0 cs) ∧ ∀ a, Rest4 Ds a0 a → a.eval x = b.v0) (hd : o.dst = some b.d) (hg : o.guard = none) (hp : p = fun _ _ => True) (hq : q = TrI) (hrl : (Rs.all fun r => r.1 != i) = true) (hx : ∀ q ∈ Xt, q.i ≠ i) (hu : (bx.zipIdx.all fun q => q.2 == k || (q.1.ia != some i)) = true) (hs : (bx.all fun b => b.st.all fun q => q.1 != i && q.2.2 != i) = true)
  | store (k : Nat) (b : Bx) (src isrc : Nat) (hk : bx[k]? = some b) (hi : b.st = some (i, src, isrc)) (ho : o.op = .store b.τ.T (.tmp b.d) (.tmp src)) (hd : o.dst = none) (hD : Ds.getD i none = none) (hg : o.guard = none) (hp : p = fun _ _ => True) (hq : q = TrI) (hrl : (Rs.all fun r => r.1 != i) = true) (hx : ∀ q ∈ Xt, q.i ≠ i) (ha : ∀ ia, b.ia = some ia → (o.after.toList.any fun e => e.on == ia && Region.binds .any e) = true) (hs : (o.after.toList.any fun e => e.on == isrc && Region.binds .any e) = true) (hu : (bx.zipIdx.all fun q => q.2 == k || (q.1.st.all fun q => q.1 != i)) = true) (hn : (bx.all fun b => b.ia != some i && b.st.all fun q => q.2.2 != i) = true)
      (hv : ∀ v w, Ps.getD isrc (fun _ _ => True) v w → ∃ cs, b.τ.Cs v cs)

def skipOp (k0 : Nat) (ls : Option Nat) (i : Nat) : Bool := decide (i < k0) || ls.any fun t => decide (t ≤ i)

def Duties6 (P : Program) (n : Nat) (Ds : List (Option Nat)) (Ps : List Says) (Gs : List SaysI) (Rs : List (Nat × Nat × (Value → Value → Prop))) (bx : List Bx) (Xt : List Xb) (Wt : List (Nat × Nat)) (a0 : Act) (w0 : World) (k0 : Nat) (ls : Option Nat) : Nat → List Oper → Prop
  | _, [] => True
  | i, o :: os => (skipOp k0 ls i = true ∨ Duty6 P n Ds Ps Rs bx Xt Wt a0 w0 i o (Ps.getD i fun _ _ => True) (Gs.getD i TrI)) ∧ Duties6 P n Ds Ps Gs Rs bx Xt Wt a0 w0 k0 ls (i + 1) os

theorem Duties6.at {P : Program} {n : Nat} {Ds : List (Option Nat)} {Ps : List Says} {Gs : List SaysI} {Rs : List (Nat × Nat × (Value → Value → Prop))} {bx : List Bx} {Xt : List Xb} {Wt : List (Nat × Nat)} {a0 : Act} {w0 : World} {k0 : Nat} {ls : Option Nat} : ∀ {os : List Oper} {m : Nat}, Duties6 P n Ds Ps Gs Rs bx Xt Wt a0 w0 k0 ls m os → ∀ i o, os[i]? = some o → skipOp k0 ls (m + i) = true ∨ Duty6 P n Ds Ps Rs bx Xt Wt a0 w0 (m + i) o (Ps.getD (m + i) fun _ _ => True) (Gs.getD (m + i) TrI)
  | [], _, _ => fun i o h => by simp at h
  | o :: os, m, h => fun i o' ho => by
    obtain ⟨h1, h2⟩ := h
    cases i with
    | zero =>
      simp only [List.getElem?_cons_zero, Option.some.injEq] at ho
      subst ho
      simpa using h1
    | succ i =>
      have := Duties6.at h2 i o' (by simpa using ho)
      have e : m + 1 + i = m + (i + 1) := by omega
      rw [e] at this
      exact this

theorem duty6_step {P : Program} {ops : Array Oper} {Q : Exit → Act → World → Prop} {n : Nat} {Ds : List (Option Nat)} {Ps : List Says} {Gs : List SaysI} {Rs : List (Nat × Nat × (Value → Value → Prop))} {k0 : Nat} {B T : Nat → Nat} {bx : List Bx} {Xt : List Xb} {Wt : List (Nat × Nat)} {a0 : Act} {w0 : World} {l : Array Bool} {a : Act} {w : World} {i : Nat} {o : Oper} (hlen : Ds.length = ops.size) (hduty : Duty6 P n Ds Ps Rs bx Xt Wt a0 w0 i o (Ps.getD i fun _ _ => True) (Gs.getD i TrI)) (hdst : ∀ j o, ops[j]? = some o → o.dst = Ds.getD j none) (hF : Fits n Ds bx) (hI : Inj Ds) (hM : Mono5s Ps) (hMG : Mono6s Gs) (hX : XOk bx Xt w0) (hτ : ∀ b ∈ bx, BoxOk P b.τ) (ho : ops[i]? = some o) (hnd : flag l i = false) (hearly : ∀ b ∈ bx, ∀ q ia, b.st = some q → b.ia = some ia → flag l q.1 = true → flag l ia = true) (hlateS : ∀ j, Wt.contains (j, i) = true → flag l j = false) (hlate : ∀ b ∈ bx, ∀ q, b.st = some q → b.wt.contains i = true → flag l q.1 = false) (h : Mid5 n Ds Ps bx Xt a0 w0 l a w) (_hk0 : k0 ≤ i) (hwr : ∀ r ∈ Rs, r.1 = i → flag l r.2.1 = true) (hJ : Ivl k0 Ds Gs Rs w0 l a w B T) (hdeps : ∀ e ∈ o.after, Region.binds .any e = true → flag l e.on = true) :
    wpOp P ops Q i (fun a' w' => Mid5 n Ds Ps bx Xt a0 w0 (l.setIfInBounds i true) a' w' ∧ ∃ B T, Ivl k0 Ds Gs Rs w0 (l.setIfInBounds i true) a' w' B T) a w := by
  have h' := h
  obtain ⟨h1, h2, h3, h4, hr, h5, hS, hXs, h6, gs, h7⟩ := h
  have hany : ∀ j, (o.after.toList.any fun e => e.on == j && Region.binds .any e) = true → flag l j = true := by
    intro j hj
    obtain ⟨e, he, hj⟩ := List.any_eq_true.1 hj
    simp only [Bool.and_eq_true, beq_iff_eq] at hj
    obtain ⟨rfl, hb⟩ := hj
    exact hdeps e (by simpa using he) hb
  have hil : i < l.size := by
    rw [h1, hlen]
    exact (Array.getElem?_eq_some_iff.1 ho).1
  refine wpOp_step ho (fun K' hK => ?_)
  cases hduty with
  | norm d hd hDi hx hb hduty =>
    have holds : Olds bx i w := by
      intro k b hk hia hwt
      have hmd : made l b = true := by unfold made; rw [hia]
      obtain ⟨_, e2, _, v, e3, e4, _⟩ := h7.1 k b hk hmd
      rw [e2 hia] at e3
      have : filled l b = false := by
        unfold filled
        cases hst : b.st with
        | none => rfl
        | some q => exact hlate b (List.mem_of_getElem? hk) q hst hwt
      rw [e4 this] at e3
      exact e3
    have hduty := hduty a w h2 h4 hr h5 (fun j hj => h6 j (hany j hj)) holds (fun j d hj hd => hS j d hd (hlateS j hj))
    cases hg : o.guard with
    | none =>
      rw [hg] at hduty
      simp only [Region.wanted, hg, if_true]
      exact Does.wp hduty (fun v w' ⟨hw, hp, hp2, hrel⟩ => by rw [hd]; exact hK _ _ ⟨h'.norm hF hI hM hnd hX hx hDi hb hw hp, _, _, hJ.step hMG hil h4.size hw.size (Ru.of_below hw) (fun j hj _ => rd_put_ne hI hDi hj) (by rw [rd_put_same hDi (hF.1 i d hDi) h2]; exact hp2) hnd (by rw [rd_put_same hDi (hF.1 i d hDi) h2]; exact hrel) hwr⟩)
    | some gb =>
      obtain ⟨g, b⟩ := gb
      rw [hg] at hduty
      simp only at hduty
      obtain ⟨⟨dg, hdg⟩, hyes, hno⟩ := hduty
      have hgo : ∃ og, ops[g]? = some og := by
        have : g < ops.size := by
          rw [← hlen]
          apply Classical.byContradiction
          intro hn
          rw [List.getD_eq_getElem?_getD, List.getElem?_eq_none (by omega)] at hdg
          simp at hdg
        exact ⟨_, Array.getElem?_eq_getElem this⟩
      obtain ⟨og, hog⟩ := hgo
      have hgn : dg < n := hF.1 g dg hdg
      have hrd : rd Ds a g = a.eval (.tmp dg) := by unfold rd; rw [hdg]
      have hy : yielded ops a.tmps g = (match a.eval (.tmp dg) with | .bool b => some b | _ => none) := by
        unfold yielded
        rw [hog]
        simp only [Option.bind_some, hdst g og hog, hdg]
        have : a.tmps[dg]? = some (a.eval (.tmp dg)) := by
          rw [Array.getElem?_eq_getElem (by omega)]
          simp only [Act.eval, Array.getD, h2, hgn, dif_pos]
          rfl
        rw [this]
        generalize a.eval (.tmp dg) = v
        cases v <;> rfl
      rw [hrd] at hyes hno
      by_cases hv : a.eval (.tmp dg) = .bool b
      · have hw : Region.wanted o (yielded ops a.tmps) = true := by
          simp only [Region.wanted, hg]
          rw [hy, hv]
          simp
        rw [if_pos hw]
        exact Does.wp (hyes hv) (fun v w' ⟨hw, hp, hp2, hrel⟩ => by rw [hd]; exact hK _ _ ⟨h'.norm hF hI hM hnd hX hx hDi hb hw hp, _, _, hJ.step hMG hil h4.size hw.size (Ru.of_below hw) (fun j hj _ => rd_put_ne hI hDi hj) (by rw [rd_put_same hDi (hF.1 i d hDi) h2]; exact hp2) hnd (by rw [rd_put_same hDi (hF.1 i d hDi) h2]; exact hrel) hwr⟩)
      · have hw : ¬ Region.wanted o (yielded ops a.tmps) = true := by
          simp only [Region.wanted, hg]
          rw [hy]
          intro hc
          apply hv
          generalize a.eval (.tmp dg) = v at *
          cases v <;> simp at hc
          rw [hc]
        rw [if_neg hw, hd]
        exact hK _ _ ⟨h'.norm hF hI hM hnd hX hx hDi hb (Below.refl _ _) (hno hv).1, _, _, hJ.step hMG hil h4.size (Nat.le_refl _) (Ru.refl _) (fun j hj _ => rd_put_ne hI hDi hj) (by rw [rd_put_same hDi (hF.1 i d hDi) h2]; exact (hno hv).2.1) hnd (by rw [rd_put_same hDi (hF.1 i d hDi) h2]; exact (hno hv).2.2) hwr⟩
  | touch q hq hqi d hd hDi hg hb hduty =>
    have holds : Olds bx i w := by
      intro k b hk hia hwt
      have hmd : made l b = true := by unfold made; rw [hia]
      obtain ⟨_, e2, _, v, e3, e4, _⟩ := h7.1 k b hk hmd
      rw [e2 hia] at e3
      have : filled l b = false := by
        unfold filled
        cases hst : b.st with
        | none => rfl
        | some q => exact hlate b (List.mem_of_getElem? hk) q hst hwt
      rw [e4 this] at e3
      exact e3
    have hsame := (hXs q hq).1 (by rw [hqi]; exact hnd)
    have hduty := hduty a w h2 h4 hr h5 (fun j hj => h6 j (hany j hj)) holds (fun j d hj hd => hS j d hd (hlateS j hj)) hsame
    simp only [Region.wanted, hg, if_true]
    exact Does.wp hduty (fun v w' ⟨ht, hu, hp, hp2, hrel, hs⟩ => by rw [hd]; exact hK _ _ ⟨h'.touch hF hI hM hnd hX hq hqi hDi hb ht hu hp hs, _, _, hJ.step hMG hil h4.size ht.size hu (fun j hj _ => rd_put_ne hI hDi hj) (by rw [rd_put_same hDi (hF.1 i d hDi) h2]; exact hp2) hnd (by rw [rd_put_same hDi (hF.1 i d hDi) h2]; exact hrel) hwr⟩)
  | alloc k b hk hia hop hd hg hp hq hrl hx hu hs =>
    have hm := List.mem_of_getElem? hk
    have hrun : ∃ cs, b.τ.Cs b.v0 cs ∧ Does P o a.eval w fun v w' => v = .pointer (some ⟨w.heap.size, 0, none⟩) ∧ w' = w.alloc (.cells cs b.τ.T) := by
      rcases hop with ⟨hop, hz⟩ | ⟨x, hop, hcs, hx⟩
      · obtain ⟨cs, hc, hrun⟩ := (hτ b hm).alloc w
        refine ⟨cs, by rw [hz]; exact hc, ⟨?_⟩⟩
        unfold Turns
        simp only [execOp, hop]
        simp [hrun]
      · obtain ⟨cs, hc, hrun⟩ := (hτ b hm).box w b.v0 hcs
        refine ⟨cs, hc, ⟨?_⟩⟩
        unfold Turns
        simp only [execOp, hop, hx a h5]
        simp [hrun]
    obtain ⟨cs, hc, hdoes⟩ := hrun
    simp only [Region.wanted, hg, if_true]
    have hns : ∀ q, b.st = some q → flag l q.1 = false := by
      intro q hq
      cases hf : flag l q.1 with
      | false => rfl
      | true =>
        have := hearly b hm q i hq hia hf
        rw [hnd] at this
        cases this
    refine Does.wp hdoes (fun v w' ⟨hv, hw⟩ => ?_)
    subst hv hw
    rw [hd]
    have hDi := ((hF.2 b hm).1 i hia).1
    exact hK _ _ ⟨h'.alloc hF hI hM hnd hX hx hk hia hu hs (fun v w => by rw [hp]; trivial) hc hns, _, _, hJ.step hMG hil h4.size ((Below.refl w.heap.size w).alloc (Nat.le_refl _) _).size (Ru.of_below ((Below.refl _ _).alloc (Nat.le_refl _) _)) (fun j hj _ => rd_put_ne hI hDi hj) (by rw [hq]; trivial) hnd (Rel.none hrl _ _) hwr⟩
  | store k b src isrc hk his hop hd hDi hg hp hq hrl hx ha hs hu hn hv =>
    have hm := List.mem_of_getElem? hk
    have hia : made l b = true := by
      unfold made
      cases hia : b.ia with
      | none => rfl
      | some ia => exact hany _ (ha ia hia)
    have hisrc := hany _ hs
    obtain ⟨e1, e2, e2', u, e3, e4⟩ := h7.1 k b hk hia
    have f2 := ((hF.2 b hm).2.2 _ his).2.1
    have hsrc := h6 _ hisrc
    have hrd : rd Ds a isrc = a.eval (.tmp src) := by unfold rd; rw [f2]
    rw [hrd] at hsrc
    obtain ⟨w', hrun, hbv, honly⟩ := (hτ b hm).store w (gs k) u _ e3 (hv _ _ hsrc)
    simp only [Region.wanted, hg, if_true]
    have hdoes : Does P o a.eval w fun v w'' => w'' = w' := by
      refine ⟨?_⟩
      unfold Turns
      simp only [execOp, hop, e1]
      simp [hrun]
    refine Does.wp hdoes (fun v w'' hw => ?_)
    subst hw
    rw [hd]
    have hru := Ru.of_rl (Rl.of_only (hτ b hm) e3 honly)
    exact hK _ _ ⟨Mid5.store (hτ b hm) h1 h2 h3 h4 hr h5 hS hDi hX hx hXs h6 h7 hM hil hk his hu hn (fun v w => by rw [hp]; trivial) hia hisrc honly hbv, _, _, hJ.step hMG hil h4.size hru.size hru (fun j hj _ => rfl) (by rw [hq]; trivial) hnd (Rel.none hrl _ _) hwr⟩

/-- From here on the region goes well. -/
def Good (P : Program) (dr : Bool) (ops : Array Oper) (Q : Exit → Act → World → Prop) (l : Array Bool) (a : Act) (w : World) : Prop :=
  ∃ Inv : Array Bool → Act → World → Prop, Inv l a w ∧ (∀ l a w, Inv l a w → l.size = ops.size ∧ ((∀ j, j < ops.size → flag l j = true) → Q .normal a w)) ∧
    ∀ l a w, Inv l a w → ∀ i o, ops[i]? = some o → flag l i = false → (∀ e ∈ o.after, Region.binds .any e = true → flag l e.on = true) → (dr = false → ∀ j, j < i → flag l j = true) → wpOp P ops Q i (fun a' w' => Inv (l.setIfInBounds i true) a' w') a w

theorem Good.step {P : Program} {dr : Bool} {ops : Array Oper} {Q : Exit → Act → World → Prop} {l : Array Bool} {a : Act} {w : World} (h : Good P dr ops Q l a w) {i : Nat} {o : Oper} (ho : ops[i]? = some o) (hnd : flag l i = false) (hdeps : ∀ e ∈ o.after, Region.binds .any e = true → flag l e.on = true) (hseq : dr = false → ∀ j, j < i → flag l j = true) : wpOp P ops Q i (fun a' w' => Good P dr ops Q (l.setIfInBounds i true) a' w') a w := by
  obtain ⟨Inv, h1, h2, h3⟩ := h
  exact wpOp_mono (fun a' w' h => ⟨Inv, h, h2, h3⟩) (h3 l a w h1 i o ho hnd hdeps hseq)

theorem Good.size {P : Program} {dr : Bool} {ops : Array Oper} {Q : Exit → Act → World → Prop} {l : Array Bool} {a : Act} {w : World} (h : Good P dr ops Q l a w) : l.size = ops.size := by
  obtain ⟨Inv, h1, h2, _⟩ := h
  exact (h2 _ _ _ h1).1
theorem Good.done {P : Program} {dr : Bool} {ops : Array Oper} {Q : Exit → Act → World → Prop} {l : Array Bool} {a : Act} {w : World} (h : Good P dr ops Q l a w) (hall : ∀ j, j < ops.size → flag l j = true) : Q .normal a w := by
  obtain ⟨Inv, h1, h2, _⟩ := h
  exact (h2 _ _ _ h1).2 hall

/-- The first k operations have run. -/
def flags (n k : Nat) : Array Bool := ((List.range n).map fun j => decide (j < k)).toArray
theorem flags_size (n k : Nat) : (flags n k).size = n := by simp [flags]
theorem flag_flags {n k j : Nat} : flag (flags n k) j = decide (j < n ∧ j < k) := by
  by_cases h : j < n
  · simp [flag, flags, h]
  · simp [flag, flags, h]
theorem flags_of {n k : Nat} {l : Array Bool} (hs : l.size = n) (h : ∀ j, j < n → flag l j = decide (j < k)) : l = flags n k := by
  apply Array.ext
  · rw [hs, flags_size]
  · intro j h1 h2
    have e := h j (by omega)
    have e1 : flag l j = l[j] := by simp [flag, h1]
    have e2 : flag (flags n k) j = (flags n k)[j] := by simp [flag, h2]
    rw [← e1, ← e2, e, flag_flags]
    simp
    omega
theorem flags_zero (n : Nat) : flags n 0 = Array.replicate n false := by
  refine (flags_of (by simp) (fun j hj => ?_)).symm
  simp [flag, hj]

theorem wp_of_good {P : Program} {ops : Array Oper} {Q : Exit → Act → World → Prop} {id : Nat} {a : Act} {w : World} {dr : Bool} (hm : P.follows .mixedOrders = true) (hdep : (ops.toList.zipIdx.all fun p => p.1.after.all fun e => !Region.binds .any e || decide (e.on < p.2)) = true)
    (h : ∀ w', Below w.heap.size w w' → Good P dr ops Q (flags ops.size 0) a w') : (Code.region id ops dr).wp P Q a w := by
  rw [flags_zero] at h
  cases dr with
  | false =>
    refine wp_region_seq (Good P false ops Q) (h w (Below.refl _ _)) (fun l a w hg hall => hg.done hall) (fun l a' w' hI i hi hnd hlow => ?_)
    have ho : ops[i]? = some ops[i] := Array.getElem?_eq_getElem hi
    refine hI.step ho hnd (fun e he hb => hlow e.on ?_) (fun _ => hlow)
    have h1 := List.all_eq_true.1 hdep (ops[i], i) (by
      rw [List.mem_zipIdx_iff_getElem?]
      simp [hi])
    have := Array.all_eq_true_iff_forall_mem.1 h1 e he
    rw [hb] at this
    simpa using this
  | true =>
    refine wp_region_inv hm (Good P true ops Q) (h _ (Below.drew (Below.refl _ _))) (fun l a' w' hI hr => hI.done (fun j hj => all_listed4 hdep hI.size hr j hj)) (fun l a' w' hI i hi => ?_)
    obtain ⟨h1, o, ho, hdeps⟩ := mem_ready.1 hi
    have hnd : flag l i = false := by
      have hs : i < l.size := by rw [hI.size]; exact (Array.getElem?_eq_some_iff.1 ho).1
      rw [Array.getD_eq_getD_getElem?, Array.getElem?_eq_getElem hs] at h1
      simp only [flag, Array.getD_eq_getD_getElem?, Array.getElem?_eq_getElem hs]
      simpa using h1
    exact hI.step ho hnd hdeps (fun h => by cases h)

/-- Does an operation wait for t, over others too? -/
def reachF (ops : Array Oper) (t : Nat) : Nat → Nat → Bool
  | 0, _ => false
  | f + 1, i => ((ops[i]?).map fun o => o.after.toList.any fun e => Region.binds .any e && (e.on == t || (decide (t < e.on) && reachF ops t f e.on))).getD false
theorem reach_flag {ops : Array Oper} {t : Nat} {l : Array Bool} (hcl : ∀ j o, ops[j]? = some o → flag l j = true → ∀ e ∈ o.after, Region.binds .any e = true → flag l e.on = true) : ∀ (f i : Nat) (o : Oper), ops[i]? = some o → (∀ e ∈ o.after, Region.binds .any e = true → flag l e.on = true) → reachF ops t f i = true → flag l t = true
  | 0, _, _, _, _, h => by simp [reachF] at h
  | f + 1, i, o, ho, hd, h => by
    rw [reachF, ho] at h
    simp only [Option.map_some, Option.getD_some] at h
    obtain ⟨e, he, h⟩ := List.any_eq_true.1 h
    simp only [Bool.and_eq_true, Bool.or_eq_true, beq_iff_eq] at h
    obtain ⟨hb, h⟩ := h
    have hf := hd e (by simpa using he) hb
    rcases h with h | ⟨_, h⟩
    · rw [← h]; exact hf
    · cases ho' : ops[e.on]? with
      | none =>
        cases f with
        | zero => simp [reachF] at h
        | succ f => rw [reachF, ho'] at h; simp at h
      | some o' => exact reach_flag hcl f e.on o' ho' (hcl e.on o' ho' hf) h

/-- What stands between waits as it must: the operation t for all from k0 on that come before it, all behind it for t. -/
def waitsAll (dr : Bool) (ops : Array Oper) (k0 : Nat) (ls : Option Nat) : Bool := match ls with
  | none => true
  | some t => decide (t < ops.size) && decide (k0 ≤ t) && (!dr || (List.range ops.size).all fun j => if j < k0 then true else if j < t then reachF ops j ops.size t else if j = t then true else reachF ops t ops.size j)

def AllB (f : Nat → Prop) : Nat → Prop
  | 0 => True
  | k + 1 => AllB f k ∧ f k
theorem AllB.at {f : Nat → Prop} : ∀ {k : Nat}, AllB f k → ∀ j, j < k → f j
  | 0, _, j, h => by omega
  | k + 1, h, j, hj => by
    by_cases e : j = k
    · rw [e]; exact h.2
    · exact h.1.at j (by omega)

/-- What is known where a stretch of operations has run. -/
structure Fin6 (n : Nat) (Ds : List (Option Nat)) (Ps : List Says) (Gs : List SaysI) (Rs : List (Nat × Nat × (Value → Value → Prop))) (k0 k1 : Nat) (bx : List Bx) (Xt : List Xb) (a : Act) (w : World) (a' : Act) (w' : World) (gs B T : Nat → Nat) : Prop where
  hn : a'.tmps.size = n
  hd : a'.defers = a.defers
  but : But5 bx Xt w w'
  ru : Ru w w'
  rest : Rest4 Ds a a'
  says : ∀ j, j < k1 → Ps.getD j (fun _ _ => True) (rd Ds a' j) w'
  touched : ∀ q ∈ Xt, q.i < k1 → q.S (rd Ds a' q.i) w'
  lies : ∀ i, k0 ≤ i → i < k1 → w.heap.size ≤ B i ∧ B i ≤ T i ∧ T i ≤ w'.heap.size ∧ Gs.getD i TrI (B i) (T i) (rd Ds a' i) w' ∧ ∀ j, k0 ≤ j → j < k1 → i ≠ j → T i ≤ B j ∨ T j ≤ B i
  boxes : ∀ (k : Nat) (b : Bx), bx[k]? = some b → a'.eval (.tmp b.d) = .pointer (some ⟨gs k, 0, none⟩) ∧ (b.ia = none → gs k = b.g0) ∧ (b.ia ≠ none → w.heap.size ≤ gs k) ∧ BoxV b.τ w' (gs k) (match b.st with | some q => a'.eval (.tmp q.2.1) | none => b.v0)
  apart : ∀ (k k' : Nat), k < bx.length → k' < bx.length → k ≠ k' → gs k ≠ gs k'
  rels : ∀ r ∈ Rs, k0 ≤ r.1 → r.1 < k1 → r.2.2 (rd Ds a' r.2.1) (rd Ds a' r.1)
  slots : ∀ j d, k1 ≤ j → Ds.getD j none = some d → a'.eval (.tmp d) = a.eval (.tmp d)

/-- Boxes and touched blocks belong to the stretch. -/
def inStretch (bx : List Bx) (Xt : List Nat) (k0 k1 : Nat) : Bool := (bx.all fun b => (b.ia.all fun i => decide (k0 ≤ i) && decide (i < k1)) && b.st.all fun q => decide (k0 ≤ q.1) && decide (q.1 < k1)) && Xt.all fun i => decide (k0 ≤ i) && decide (i < k1)

/-- A stretch of a region: the operations from k0 on, up to the one that is shown by hand, or to the end. -/
theorem good6 {P : Program} {dr : Bool} {ops : Array Oper} {Q : Exit → Act → World → Prop} {n : Nat} {a : Act} {w : World} (k0 k1 : Nat) (ls : Option Nat) (Ds : List (Option Nat)) (Ps : List Says) (Gs : List SaysI) (Rs : List (Nat × Nat × (Value → Value → Prop))) (bx : List Bx) (Xt : List Xb) (Wt : List (Nat × Nat)) (hk1 : (match ls with | none => ops.size | some t => t) = k1) (hn : a.tmps.size = n) (hDs : ops.toList.map (·.dst) = Ds)
    (hinj : (Ds.zipIdx.all fun p => p.1.isNone || Ds.zipIdx.all fun q => p.1 != q.1 || p.2 == q.2) = true) (hf1 : (Ds.all fun d => d.all fun d => decide (d < n)) = true) (hf2 : (bx.all (fitOne Ds)) = true)
    (hdep : (ops.toList.zipIdx.all fun p => p.1.after.all fun e => !Region.binds .any e || decide (e.on < p.2)) = true)
    (hst : (bx.all (waitOne ops)) = true) (hwt : (Wt.all fun p => ((ops[p.1]?).map fun o => o.after.toList.any fun e => e.on == p.2 && Region.binds .any e).getD false) = true)
    (hwr : (Rs.all fun r => ((ops[r.1]?).map fun o => o.after.toList.any fun e => e.on == r.2.1 && Region.binds .any e).getD false) = true) (hwl : waitsAll dr ops k0 ls = true) (hin : inStretch bx (Xt.map (·.i)) k0 k1 = true) (hk0 : k0 ≤ ops.size)
    (hM : Mono5s Ps) (hMG : Mono6s Gs) (hX : XOk bx Xt w) (hτ : ∀ b ∈ bx, BoxOk P b.τ) (hold : ∀ b ∈ bx, b.ia = none → a.eval (.tmp b.d) = .pointer (some ⟨b.g0, 0, none⟩) ∧ BoxV b.τ w b.g0 b.v0) (hdis : ∀ (k k' : Nat) (b b' : Bx), bx[k]? = some b → bx[k']? = some b' → k ≠ k' → b.ia = none → b'.ia = none → b.g0 ≠ b'.g0)
    (hP0 : AllB (fun j => Ps.getD j (fun _ _ => True) (rd Ds a j) w) k0) (hD : Duties6 P n Ds Ps Gs Rs bx Xt Wt a w k0 ls 0 ops.toList)
    (hlast : ∀ t o, ls = some t → ops[t]? = some o → ∀ (a' : Act) (w' : World) (gs B T : Nat → Nat), Fin6 n Ds Ps Gs Rs k0 k1 bx Xt a w a' w' gs B T → (match o.guard with | none => True | some (g, b) => (∃ dg, Ds.getD g none = some dg) ∧ rd Ds a' g = .bool b) ∧ Does P o a'.eval w' fun v w'' => Good P dr ops Q (flags ops.size (t + 1)) (a'.put o.dst v) w'')
    (hend : ls = none → ∀ (a' : Act) (w' : World) (gs B T : Nat → Nat), Fin6 n Ds Ps Gs Rs k0 k1 bx Xt a w a' w' gs B T → Q .normal a' w') : Good P dr ops Q (flags ops.size k0) a w := by
  have hlen : Ds.length = ops.size := by rw [← hDs]; simp
  have hdst : ∀ j o, ops[j]? = some o → o.dst = Ds.getD j none := by
    intro j o ho
    rw [← hDs, List.getD_eq_getElem?_getD, List.getElem?_map, Array.getElem?_toList, ho]
    rfl
  have hF := fits_of hf1 hf2
  have hI := inj_of hinj
  simp only [inStretch, Bool.and_eq_true] at hin
  have hbi : ∀ b ∈ bx, (∀ ia, b.ia = some ia → k0 ≤ ia ∧ ia < k1) ∧ ∀ q, b.st = some q → k0 ≤ q.1 ∧ q.1 < k1 := by
    intro b hb
    have := List.all_eq_true.1 hin.1 b hb
    simp only [Bool.and_eq_true] at this
    refine ⟨fun ia hia => ?_, fun q hq => ?_⟩
    · have h1 := this.1
      rw [hia] at h1
      simpa using h1
    · have h2 := this.2
      rw [hq] at h2
      simpa using h2
  have hxi : ∀ q ∈ Xt, k0 ≤ q.i ∧ q.i < k1 := by
    intro q hq
    have := List.all_eq_true.1 hin.2 q.i (List.mem_map.2 ⟨q, hq, rfl⟩)
    simpa using this
  have hk1s : k1 ≤ ops.size := by
    rw [← hk1]
    cases hls : ls with
    | none => exact Nat.le_refl _
    | some t =>
      rw [hls] at hwl
      simp only [waitsAll, Bool.and_eq_true, decide_eq_true_eq] at hwl
      exact Nat.le_of_lt hwl.1.1
  have hk01 : k0 ≤ k1 := by
    rw [← hk1]
    cases hls : ls with
    | none => exact hk0
    | some t =>
      rw [hls] at hwl
      simp only [waitsAll, Bool.and_eq_true, decide_eq_true_eq] at hwl
      exact hwl.1.2
  have hmd : ∀ l b, b ∈ bx → (∀ j, j < k1 → flag l j = true) → made l b = true := by
    intro l b hb hall
    unfold made
    cases hia : b.ia with
    | none => rfl
    | some ia => exact hall _ ((hbi b hb).1 ia hia).2
  have hall6 : ∀ l a' w', Mid5 n Ds Ps bx Xt a w l a' w' → (∃ B T, Ivl k0 Ds Gs Rs w l a' w' B T) → (∀ j, j < k1 → flag l j = true) → (∀ j, k1 ≤ j → flag l j = false) → ∃ gs B T, Fin6 n Ds Ps Gs Rs k0 k1 bx Xt a w a' w' gs B T := by
    rintro l a' w' ⟨h1, h2, h3, h4, hr, h5, hS, hXs, h6, gs, h7, h8⟩ ⟨B, T, hJ⟩ hall hno
    refine ⟨gs, B, T, h2, h3, h4, hr, h5, fun j hj => h6 j (hall j hj), fun q hq hl => (hXs q hq).2 (hall q.i hl), fun i hi0 hi => ?_, fun k b hk => ?_, fun k k' hk hk' hne => ?_, fun r hr h0 h1 => (hJ.1 r hr h0 (hall _ h1)).2, fun j d hj hd => hS j d hd (hno j hj)⟩
    · obtain ⟨j1, j2, j3, j4, j5⟩ := hJ.2 i hi0 (hall i hi)
      exact ⟨j1, j2, j3, j4, fun j hj0 hj hij => j5 j hj0 (hall j hj) hij⟩
    · have hmem := List.mem_of_getElem? hk
      obtain ⟨e1, e2, e2', v, e3, e4, e5⟩ := h7 k b hk (hmd l b hmem hall)
      refine ⟨e1, e2, e2', ?_⟩
      cases hs : b.st with
      | none =>
        have : filled l b = false := by unfold filled; rw [hs]
        rw [e4 this] at e3
        exact e3
      | some q =>
        obtain ⟨_, e6⟩ := e5 q hs (hall _ ((hbi b hmem).2 q hs).2)
        simp only
        rw [e6]
        exact e3
    · exact h8 k k' bx[k] bx[k'] (List.getElem?_eq_getElem hk) (List.getElem?_eq_getElem hk') hne (hmd l _ (List.getElem_mem hk) hall) (hmd l _ (List.getElem_mem hk') hall)
  let Inv : Array Bool → Act → World → Prop := fun l a' w' => (ls ≠ none ∧ Good P dr ops Q l a' w') ∨ (Mid5 n Ds Ps bx Xt a w l a' w' ∧ (∃ B T, Ivl k0 Ds Gs Rs w l a' w' B T) ∧ (∀ j, j < k0 → flag l j = true) ∧ (∀ j, k1 ≤ j → flag l j = false) ∧ ∀ j o, ops[j]? = some o → flag l j = true → ∀ e ∈ o.after, Region.binds .any e = true → flag l e.on = true)
  have hwait : ∀ l, (∀ j o, ops[j]? = some o → flag l j = true → ∀ e ∈ o.after, Region.binds .any e = true → flag l e.on = true) → ∀ b ∈ bx, ∀ q, b.st = some q → flag l q.1 = true → (∀ ia, b.ia = some ia → flag l ia = true) ∧ ∀ i, b.wt.contains i = true → flag l i = true := by
    intro l hcl b hb q hq hfl
    have := List.all_eq_true.1 hst b hb
    unfold waitOne at this
    rw [hq] at this
    simp only [Option.all_some] at this
    cases ho' : ops[q.1]? with
    | none => rw [ho'] at this; simp at this
    | some o' =>
      rw [ho'] at this
      simp only [Option.map_some, Option.getD_some, Bool.and_eq_true] at this
      have key : ∀ j, (o'.after.toList.any fun e => e.on == j && Region.binds .any e) = true → flag l j = true := by
        intro j hj
        obtain ⟨e, he, hj⟩ := List.any_eq_true.1 hj
        simp only [Bool.and_eq_true, beq_iff_eq] at hj
        obtain ⟨hj1, hj2⟩ := hj
        have := hcl q.1 o' ho' hfl e (by simpa using he) hj2
        rwa [hj1] at this
      refine ⟨fun ia hia => ?_, fun i hi => ?_⟩
      · have h1 := this.1
        rw [hia] at h1
        exact key ia (by simpa using h1)
      · have h2 := List.all_eq_true.1 this.2 i (by simpa using hi)
        exact key i h2
  refine ⟨Inv, .inr ⟨⟨by rw [flags_size, hlen], hn, rfl, ⟨rfl, rfl, rfl, Nat.le_refl _, fun m _ _ _ => rfl⟩, Ru.refl _, fun _ _ => rfl, fun _ _ _ _ => rfl, fun q hq => ⟨fun _ => rfl, fun hf => ?_⟩, fun j hj => ?_, fun k => (bx[k]?.map (·.g0)).getD 0, fun k b hk hf => ?_, fun k k' b b' hk hk' hne hf hf' => ?_⟩, ⟨fun _ => 0, fun _ => 0, fun r hr hi hf => absurd hf (by rw [flag_flags]; simp; omega), fun i hi hf => ?_⟩, fun j hj => ?_, fun j hj => ?_, fun j o ho hj e he hb => ?_⟩, ?_, ?_⟩
  · rw [flag_flags] at hf
    have := hxi q hq
    simp at hf
    omega
  · rw [flag_flags] at hj
    simp at hj
    exact hP0.at j hj.2
  · have hia : b.ia = none := by
      unfold made at hf
      cases hia : b.ia with
      | none => rfl
      | some ia =>
        rw [hia] at hf
        simp only [flag_flags] at hf
        have := ((hbi b (List.mem_of_getElem? hk)).1 ia hia)
        simp at hf
        omega
    obtain ⟨o1, o2⟩ := hold b (List.mem_of_getElem? hk) hia
    simp only [hk, Option.map_some, Option.getD_some]
    refine ⟨o1, fun _ => trivial, fun h => absurd hia h, b.v0, o2, fun _ => rfl, fun q hq hfl => ?_⟩
    rw [flag_flags] at hfl
    have := (hbi b (List.mem_of_getElem? hk)).2 q hq
    simp at hfl
    omega
  · have hia0 : ∀ b, b ∈ bx → made (flags ops.size k0) b = true → b.ia = none := by
      intro b hb hf
      unfold made at hf
      cases hia : b.ia with
      | none => rfl
      | some ia =>
        rw [hia] at hf
        simp only [flag_flags] at hf
        have := ((hbi b hb).1 ia hia)
        simp at hf
        omega
    simp only [hk, hk', Option.map_some, Option.getD_some]
    exact hdis k k' b b' hk hk' hne (hia0 b (List.mem_of_getElem? hk) hf) (hia0 b' (List.mem_of_getElem? hk') hf')
  · rw [flag_flags] at hf
    simp at hf
    omega
  · rw [flag_flags]
    simp
    omega
  · rw [flag_flags]
    simp
    omega
  · rw [flag_flags] at hj ⊢
    simp at hj ⊢
    have h1 := List.all_eq_true.1 hdep (o, j) (by
      rw [List.mem_zipIdx_iff_getElem?]
      simpa using ho)
    have := Array.all_eq_true_iff_forall_mem.1 h1 e he
    rw [hb] at this
    simp at this
    omega
  · rintro l a' w' (⟨hne, hg⟩ | ⟨h, hJ, hlo, hhi, _⟩)
    · exact ⟨hg.size, fun hall => hg.done hall⟩
    · refine ⟨by rw [h.1, hlen], fun hall => ?_⟩
      cases hls : ls with
      | none =>
        obtain ⟨gs, B, T, hf⟩ := hall6 l a' w' h hJ (fun j hj => hall j (by omega)) hhi
        exact hend hls a' w' gs B T hf
      | some t =>
        rw [hls] at hwl hk1
        simp only [waitsAll, Bool.and_eq_true, decide_eq_true_eq] at hwl
        simp only at hk1
        have e1 := hall t hwl.1.1
        have e2 := hhi t (by omega)
        rw [e1] at e2
        cases e2
  · rintro l a' w' (⟨hne, hg⟩ | ⟨hmid, ⟨B, T, hJ⟩, hlo, hhi, hcl⟩) i o ho hnd hdeps hseq
    · exact wpOp_mono (fun _ _ h => .inl ⟨hne, h⟩) (hg.step ho hnd hdeps hseq)
    have hio : i < ops.size := (Array.getElem?_eq_some_iff.1 ho).1
    have hi0 : k0 ≤ i := by
      apply Classical.byContradiction
      intro hh
      have := hlo i (by omega)
      rw [hnd] at this
      cases this
    by_cases hlt : i < k1
    · have hduty : Duty6 P n Ds Ps Rs bx Xt Wt a w i o (Ps.getD i fun _ _ => True) (Gs.getD i TrI) := by
        have := hD.at i o (by rw [Array.getElem?_toList]; exact ho)
        rw [Nat.zero_add] at this
        refine this.resolve_left (fun hs => ?_)
        simp only [skipOp, Bool.or_eq_true, decide_eq_true_eq] at hs
        rcases hs with hs | hs
        · omega
        · cases hls : ls with
          | none => rw [hls] at hs; simp at hs
          | some t =>
            rw [hls] at hs hk1
            simp at hs hk1
            omega
      refine wpOp_mono (fun a'' w'' h => .inr ⟨h.1, h.2, fun j hj => ?_, fun j hj => ?_, fun j oj hoj hj e he hb => ?_⟩) (duty6_step hlen hduty hdst hF hI hM hMG hX hτ ho hnd (fun b hb q ia hq hia hfl => (hwait l hcl b hb q hq hfl).1 ia hia) (fun j hj => ?_) (fun b hb q hq hwt => ?_) hmid hi0 (fun r hr e => ?_) hJ hdeps)
      · rw [flag_set_ne (by omega)]
        exact hlo j hj
      · rw [flag_set_ne (by omega)]
        exact hhi j hj
      · have keep : ∀ m, flag l m = true → flag (l.setIfInBounds i true) m = true := by
          intro m hm'
          by_cases e' : m = i
          · subst e'
            rw [hnd] at hm'
            cases hm'
          · rw [flag_set_ne e']
            exact hm'
        rcases flag_set hj with rfl | ⟨_, hj⟩
        · rw [ho] at hoj
          obtain rfl := Option.some.inj hoj
          exact keep _ (hdeps e he hb)
        · exact keep _ (hcl j oj hoj hj e he hb)
      · cases hfl : flag l j with
        | false => rfl
        | true =>
          have h1 := List.all_eq_true.1 hwt (j, i) (by simpa using hj)
          cases ho' : ops[j]? with
          | none => rw [ho'] at h1; simp at h1
          | some o' =>
            rw [ho'] at h1
            simp only [Option.map_some, Option.getD_some] at h1
            obtain ⟨e, he, h2⟩ := List.any_eq_true.1 h1
            simp only [Bool.and_eq_true, beq_iff_eq] at h2
            have := hcl j o' ho' hfl e (by simpa using he) h2.2
            rw [h2.1, hnd] at this
            cases this
      · cases hfl : flag l q.1 with
        | false => rfl
        | true =>
          have := (hwait l hcl b hb q hq hfl).2 i hwt
          rw [hnd] at this
          cases this
      · have h1 := List.all_eq_true.1 hwr r hr
        rw [e, ho] at h1
        simp only [Option.map_some, Option.getD_some] at h1
        obtain ⟨e', he', h2⟩ := List.any_eq_true.1 h1
        simp only [Bool.and_eq_true, beq_iff_eq] at h2
        rw [← h2.1]
        exact hdeps e' (by simpa using he') h2.2
    · cases hls : ls with
      | none =>
        rw [hls] at hk1
        simp only at hk1
        omega
      | some t =>
        have hk1' := hk1
        have hwl' := hwl
        rw [hls] at hk1' hwl'
        simp only [waitsAll, Bool.and_eq_true, decide_eq_true_eq] at hwl'
        simp only at hk1'
        obtain ⟨⟨ht, hkt⟩, hwl'⟩ := hwl'
        by_cases hit : i = t
        · subst hit
          have hfl : ∀ j, j < i → flag l j = true := by
            intro j hj
            by_cases hjk : j < k0
            · exact hlo j hjk
            · cases dr with
              | false => exact hseq rfl j hj
              | true =>
                have := List.all_eq_true.1 (show (List.range ops.size).all _ = true by simpa only [Bool.not_true, Bool.false_or] using hwl') j (by simp; omega)
                rw [if_neg hjk, if_pos hj] at this
                exact reach_flag hcl _ i o ho hdeps this
          obtain ⟨gs, B', T', hf⟩ := hall6 l a' w' hmid ⟨B, T, hJ⟩ (fun j hj => hfl j (by omega)) hhi
          obtain ⟨hgd, hdo⟩ := hlast i o hls ho a' w' gs B' T' hf
          have hset : l.setIfInBounds i true = flags ops.size (i + 1) := by
            refine flags_of (by simp [hmid.1, hlen]) (fun j hj => ?_)
            by_cases e : j = i
            · subst e
              rw [flag_set_same (by rw [hmid.1, hlen]; exact hj)]
              simp
            · rw [flag_set_ne e]
              by_cases hji : j < i
              · rw [hfl j hji]
                simp
                omega
              · rw [hhi j (by omega)]
                simp
                omega
          refine wpOp_step ho (fun K' hK => ?_)
          have hwant : Region.wanted o (yielded ops a'.tmps) = true := by
            cases hg : o.guard with
            | none => simp only [Region.wanted, hg]
            | some gb =>
              obtain ⟨g, b⟩ := gb
              rw [hg] at hgd
              simp only at hgd
              obtain ⟨⟨dg, hdg⟩, hv⟩ := hgd
              have hgo : ∃ og, ops[g]? = some og := by
                have : g < ops.size := by
                  rw [← hlen]
                  apply Classical.byContradiction
                  intro hn
                  rw [List.getD_eq_getElem?_getD, List.getElem?_eq_none (by omega)] at hdg
                  simp at hdg
                exact ⟨_, Array.getElem?_eq_getElem this⟩
              obtain ⟨og, hog⟩ := hgo
              have hgn : dg < n := hF.1 g dg hdg
              have hrd : rd Ds a' g = a'.eval (.tmp dg) := by unfold rd; rw [hdg]
              rw [hrd] at hv
              have h2 := hmid.2.1
              have : a'.tmps[dg]? = some (a'.eval (.tmp dg)) := by
                rw [Array.getElem?_eq_getElem (by omega)]
                simp only [Act.eval, Array.getD, h2, hgn, dif_pos]
                rfl
              simp only [Region.wanted, hg, yielded, hog, Option.bind_some, hdst g og hog, hdg, this, hv]
              simp
          rw [if_pos hwant]
          exact Does.wp hdo (fun v w'' hq => hK _ _ (.inl ⟨by rw [hls]; simp, by rw [hset]; exact hq⟩))
        · exfalso
          have e1 : flag l t = true := by
            cases dr with
            | false => exact hseq rfl t (by omega)
            | true =>
              have := List.all_eq_true.1 (show (List.range ops.size).all _ = true by simpa only [Bool.not_true, Bool.false_or] using hwl') i (by simpa using hio)
              rw [if_neg (by omega), if_neg (by omega), if_neg hit] at this
              exact reach_flag hcl _ i o ho hdeps this
          rw [hhi t (by omega)] at e1
          cases e1

end Lm
end Go.Proofs.Ytjhhjefobbhdlaa
