/-
  A region over a frame that is not written out: what each operation answers, one obligation for each operation, whatever the order. No program is named here.
-/
import Derived.Test.YtjhhjefobbhdlaaInv
import Derived.Below
namespace Go.Proofs.Ytjhhjefobbhdlaa
namespace Lm
open Go Go.RowKit

/-- What an operation comes to, its operands read by ρ. -/
def Turns (P : Program) (o : Oper) (ρ : Operand → Value) (w : World) (R : Value → World → Prop) : Prop :=
  match (execOp ρ o).run P w with
  | .ok (.value v) w' => R v w'
  | .ok .skip w' => R undef w'
  | .ok (.enter f args) w' => Calls P f args w' fun e w'' => ∃ v, e = .returned v ∧ R v w''
  | .ok (.row row args) w' => Rows P row args w' R
  | _ => False

/-- The same, shut. -/
structure Does (P : Program) (o : Oper) (ρ : Operand → Value) (w : World) (R : Value → World → Prop) : Prop where
  out : Turns P o ρ w R

theorem Does.wp {P : Program} {o : Oper} {a : Act} {w : World} {R : Value → World → Prop} {K : Act → World → Prop} {Q : Exit → Act → World → Prop} (h : Does P o a.eval w R) (hk : ∀ v w', R v w' → K (a.put o.dst v) w') : o.wp P a w K Q := by
  replace h := h.out
  unfold Turns at h
  unfold Oper.wp
  generalize (execOp a.eval o).run P w = r at *
  cases r with
  | ok n w' =>
    cases n <;> simp only [Oper.upon] at h ⊢ <;>
      first
        | exact hk _ _ h
        | exact h.elim
        | exact Calls.mono h (fun e w'' he => by obtain ⟨v, rfl, hv⟩ := he; exact hk _ _ hv)
        | exact Rows.mono h (fun _ _ he => hk _ _ he)
  | halt x w' => exact h.elim

theorem Does.mono {P : Program} {o : Oper} {ρ : Operand → Value} {w : World} {R R' : Value → World → Prop} (h : Does P o ρ w R) (hk : ∀ v w', R v w' → R' v w') : Does P o ρ w R' := by
  refine ⟨?_⟩
  replace h := h.out
  unfold Turns at *
  generalize (execOp ρ o).run P w = r at *
  cases r with
  | ok n w' =>
    cases n <;> simp only [] at h ⊢ <;>
      first
        | exact hk _ _ h
        | exact h.elim
        | exact Calls.mono h (fun e w'' he => by obtain ⟨v, rfl, hv⟩ := he; exact ⟨v, rfl, hk _ _ hv⟩)
        | exact Rows.mono h (fun _ _ he => hk _ _ he)
  | halt x w' => exact h.elim

/-- What is said of each operation's answer. -/
abbrev Says := Value → World → Prop

/-- The slots that the region leaves alone. -/
def Rest (Ds : List Nat) (a0 a : Act) : Prop := ∀ k, Ds.contains k = false → a.eval (.tmp k) = a0.eval (.tmp k)

/-- The answers that an operation waits for. -/
def Deps (Ds : List Nat) (Ps : List Says) (o : Oper) (a : Act) (w : World) : Prop := ∀ j, (o.after.toList.any fun e => e.on == j && Region.binds .any e) = true → Ps.getD j (fun _ _ => True) (a.eval (.tmp (Ds.getD j 0))) w

/-- The obligation of one operation: it writes slot d, and what it answers is as p says. -/
def Duty (P : Program) (n : Nat) (Ds : List Nat) (Ps : List Says) (a0 : Act) (w0 : World) (o : Oper) (d : Nat) (p : Says) : Prop :=
  o.dst = some d ∧ ∀ a w, a.tmps.size = n → Below w0.heap.size w0 w → Rest Ds a0 a → Deps Ds Ps o a w →
    match o.guard with
    | none => Does P o a.eval w fun v w' => Below w.heap.size w w' ∧ p v w'
    | some (g, b) => g < Ds.length ∧ (a.eval (.tmp (Ds.getD g 0)) = .bool b → Does P o a.eval w fun v w' => Below w.heap.size w w' ∧ p v w') ∧ (a.eval (.tmp (Ds.getD g 0)) ≠ .bool b → p undef w)

def Duties (P : Program) (n : Nat) (Ds : List Nat) (Ps : List Says) (a0 : Act) (w0 : World) : List Oper → List Nat → List Says → Prop
  | [], [], [] => True
  | o :: os, d :: ds, p :: ps => Duty P n Ds Ps a0 w0 o d p ∧ Duties P n Ds Ps a0 w0 os ds ps
  | _, _, _ => False

def Mono (p : Says) : Prop := ∀ v w w', Below w.heap.size w w' → p v w → p v w'

def Monos : List Says → Prop
  | [] => True
  | p :: ps => Mono p ∧ Monos ps

theorem Monos.at {ps : List Says} (h : Monos ps) (j : Nat) : Mono (ps.getD j (fun _ _ => True)) := by
  induction ps generalizing j with
  | nil => intro v w w' _ _; simp
  | cons p ps ih =>
    cases j with
    | zero => simpa using h.1
    | succ j => simpa using ih h.2 j

theorem Duties.at {P : Program} {n : Nat} {Ds : List Nat} {Ps : List Says} {a0 : Act} {w0 : World} : ∀ {os : List Oper} {ds : List Nat} {ps : List Says}, Duties P n Ds Ps a0 w0 os ds ps → ds.length = os.length ∧ ∀ i o, os[i]? = some o → Duty P n Ds Ps a0 w0 o (ds.getD i 0) (ps.getD i fun _ _ => True)
  | [], [], [], _ => ⟨rfl, fun i o h => by simp at h⟩
  | o :: os, d :: ds, p :: ps, h => by
    obtain ⟨h1, h2⟩ := h
    obtain ⟨hl, h3⟩ := Duties.at h2
    refine ⟨by simp [hl], fun i o' ho => ?_⟩
    cases i with
    | zero =>
      simp only [List.getElem?_cons_zero, Option.some.injEq] at ho
      subst ho
      simpa using h1
    | succ i =>
      simpa using h3 i o' (by simpa using ho)
  | [], _ :: _, _, h => h.elim
  | [], [], _ :: _, h => h.elim
  | _ :: _, [], _, h => h.elim
  | _ :: _, _ :: _, [], h => h.elim

theorem put_tmps (a : Act) (d : Nat) (v : Value) : (a.put (some d) v).tmps = a.tmps.setIfInBounds d v := rfl

theorem eval_put_same {a : Act} {d : Nat} {v : Value} (h : d < a.tmps.size) : (a.put (some d) v).eval (.tmp d) = v := by
  simp [Act.eval, Act.put, h]

theorem eval_put_ne {a : Act} {d k : Nat} {v : Value} (h : d ≠ k) : (a.put (some d) v).eval (.tmp k) = a.eval (.tmp k) := by
  simp [Act.eval, Act.put, h]

theorem nodup_getD {l : List Nat} (h : l.Nodup) {i j : Nat} (hi : i < l.length) (hj : j < l.length) (hne : i ≠ j) : l.getD i 0 ≠ l.getD j 0 := by
  rw [List.getD_eq_getElem?_getD, List.getD_eq_getElem?_getD, List.getElem?_eq_getElem hi, List.getElem?_eq_getElem hj]
  intro he
  exact hne ((List.getElem_inj h).1 (by simpa using he))

/-- The state between two operations. -/
def Mid (n : Nat) (Ds : List Nat) (Ps : List Says) (a0 : Act) (w0 : World) (l : Array Bool) (a : Act) (w : World) : Prop :=
  l.size = Ds.length ∧ a.tmps.size = n ∧ a.defers = a0.defers ∧ Below w0.heap.size w0 w ∧ Rest Ds a0 a ∧ ∀ j, l.getD j false = true → Ps.getD j (fun _ _ => True) (a.eval (.tmp (Ds.getD j 0))) w

theorem Mid.put {n : Nat} {Ds : List Nat} {Ps : List Says} {a0 : Act} {w0 : World} {l : Array Bool} {a : Act} {w w' : World} {i : Nat} {v : Value} (h : Mid n Ds Ps a0 w0 l a w) (hi : i < Ds.length) (hnd : Ds.Nodup) (hlt : (Ds.all fun d => decide (d < n)) = true) (hM : Monos Ps) (hb : Below w.heap.size w w') (hp : Ps.getD i (fun _ _ => True) v w') :
    Mid n Ds Ps a0 w0 (l.setIfInBounds i true) (a.put (some (Ds.getD i 0)) v) w' := by
  obtain ⟨h1, h2, h3, h4, h5, h6⟩ := h
  have hd : Ds.getD i 0 < n := by
    have := List.all_eq_true.1 hlt (Ds.getD i 0) (by rw [List.getD_eq_getElem?_getD, List.getElem?_eq_getElem hi]; simp)
    simpa using this
  refine ⟨by simp [h1], by rw [put_tmps]; simp [h2], h3, h4.trans (hb.mono h4.size), fun k hk => ?_, fun j hj => ?_⟩
  · rw [eval_put_ne, h5 k hk]
    rintro rfl
    have : Ds.contains (Ds.getD i 0) = true := by
      rw [List.contains_iff_mem, List.getD_eq_getElem?_getD, List.getElem?_eq_getElem hi]
      simp
    rw [this] at hk
    cases hk
  · by_cases e : j = i
    · subst e
      rw [eval_put_same (by omega)]
      exact hp
    · rw [getD_set_ne false (fun h => e h.symm)] at hj
      have hjl : j < Ds.length := by
        rw [Array.getD_eq_getD_getElem?] at hj
        cases hc : l[j]? with
        | none => rw [hc] at hj; simp at hj
        | some b => rw [← h1]; exact (Array.getElem?_eq_some_iff.1 hc).1
      rw [eval_put_ne (nodup_getD hnd hi hjl (fun h => e h.symm))]
      exact hM.at j _ _ _ hb (h6 j hj)

theorem duty_step {P : Program} {ops : Array Oper} {Q : Exit → Act → World → Prop} {n : Nat} {Ds : List Nat} {Ps : List Says} {a0 : Act} {w0 : World} {l : Array Bool} {a : Act} {w : World} {i : Nat} {o : Oper} (hD : Duties P n Ds Ps a0 w0 ops.toList Ds Ps) (hnd : Ds.Nodup) (hlt : (Ds.all fun d => decide (d < n)) = true) (hM : Monos Ps) (ho : ops[i]? = some o) (h : Mid n Ds Ps a0 w0 l a w) (hdeps : ∀ e ∈ o.after, Region.binds .any e = true → l.getD e.on false = true) :
    wpOp P ops Q i (fun a' w' => Mid n Ds Ps a0 w0 (l.setIfInBounds i true) a' w') a w := by
  have h' := h
  obtain ⟨h1, h2, h3, h4, h5, h6⟩ := h
  obtain ⟨hlen, hat⟩ := hD.at
  have hio : ops.toList[i]? = some o := by rw [Array.getElem?_toList]; exact ho
  have hil : i < Ds.length := by rw [hlen]; exact (List.getElem?_eq_some_iff.1 hio).1
  obtain ⟨hdst, hduty⟩ := hat i o hio
  have hduty := hduty a w h2 h4 h5 (fun j hj => by
    obtain ⟨e, he, hj⟩ := List.any_eq_true.1 hj
    simp only [Bool.and_eq_true, beq_iff_eq] at hj
    obtain ⟨rfl, hb⟩ := hj
    exact h6 _ (hdeps e (by simpa using he) hb))
  refine wpOp_step ho (fun K' hK => ?_)
  cases hg : o.guard with
  | none =>
    rw [hg] at hduty
    simp only [Region.wanted, hg, if_true]
    exact Does.wp hduty (fun v w' ⟨hb, hp⟩ => by rw [hdst]; exact hK _ _ (h'.put hil hnd hlt hM hb hp))
  | some gb =>
    obtain ⟨g, b⟩ := gb
    rw [hg] at hduty
    simp only at hduty
    obtain ⟨hgl, hyes, hno⟩ := hduty
    have hgo : ∃ og, ops[g]? = some og := by
      have : g < ops.size := by rw [← Array.length_toList, ← hlen]; exact hgl
      exact ⟨_, Array.getElem?_eq_getElem this⟩
    obtain ⟨og, hog⟩ := hgo
    have hgd := (hat g og (by rw [Array.getElem?_toList]; exact hog)).1
    have hgn : Ds.getD g 0 < n := by
      have := List.all_eq_true.1 hlt (Ds.getD g 0) (by rw [List.getD_eq_getElem?_getD, List.getElem?_eq_getElem hgl]; simp)
      simpa using this
    have hy : yielded ops a.tmps g = (match a.eval (.tmp (Ds.getD g 0)) with | .bool b => some b | _ => none) := by
      unfold yielded
      rw [hog]
      simp only [Option.bind_some, hgd]
      have : a.tmps[Ds.getD g 0]? = some (a.eval (.tmp (Ds.getD g 0))) := by
        rw [Array.getElem?_eq_getElem (by omega)]
        simp only [Act.eval, Array.getD, h2, hgn, dif_pos]
        rfl
      rw [this]
      generalize a.eval (.tmp (Ds.getD g 0)) = v
      cases v <;> rfl
    by_cases hv : a.eval (.tmp (Ds.getD g 0)) = .bool b
    · have hw : Region.wanted o (yielded ops a.tmps) = true := by
        simp only [Region.wanted, hg]
        rw [hy, hv]
        simp
      rw [if_pos hw]
      exact Does.wp (hyes hv) (fun v w' ⟨hb, hp⟩ => by rw [hdst]; exact hK _ _ (h'.put hil hnd hlt hM hb hp))
    · have hw : ¬ Region.wanted o (yielded ops a.tmps) = true := by
        simp only [Region.wanted, hg]
        rw [hy]
        intro hc
        apply hv
        generalize a.eval (.tmp (Ds.getD g 0)) = v at *
        cases v <;> simp at hc
        rw [hc]
      rw [if_neg hw, hdst]
      exact hK _ _ (h'.put hil hnd hlt hM (Below.refl _ _) (hno hv))

/-- The region that draws. -/
theorem region_abs {P : Program} {ops : Array Oper} {Q : Exit → Act → World → Prop} {id n : Nat} {a : Act} {w : World} (Ds : List Nat) (Ps : List Says) (hm : P.follows .mixedOrders = true) (hn : a.tmps.size = n) (hnd : Ds.Nodup) (hlt : (Ds.all fun d => decide (d < n)) = true)
    (hdep : (ops.toList.zipIdx.all fun p => p.1.after.all fun e => decide (e.on < p.2)) = true) (hM : Monos Ps) (hD : Duties P n Ds Ps a w ops.toList Ds Ps)
    (hend : ∀ a' w', a'.tmps.size = n → a'.defers = a.defers → Below w.heap.size w w' → Rest Ds a a' → (∀ j, j < Ds.length → Ps.getD j (fun _ _ => True) (a'.eval (.tmp (Ds.getD j 0))) w') → Q .normal a' w') : (Code.region id ops true).wp P Q a w := by
  have hlen := hD.at.1
  refine wp_region_inv hm (Mid n Ds Ps a w) ⟨by simp [hlen], hn, rfl, Below.drew (Below.refl _ _), fun _ _ => rfl, fun j hj => ?_⟩ ?_ ?_
  · simp [Array.getElem?_replicate] at hj
    split at hj <;> simp at hj
  · rintro l a' w' ⟨h1, h2, h3, h4, h5, h6⟩ hr
    refine hend a' w' h2 h3 h4 h5 (fun j hj => h6 j (all_listed hdep (by rw [h1, hlen]; simp) hr j (by rw [← Array.length_toList, ← hlen]; exact hj)))
  · rintro l a' w' h i hi
    obtain ⟨_, o, ho, hdeps⟩ := mem_ready.1 hi
    exact duty_step hD hnd hlt hM ho h hdeps

end Lm
end Go.Proofs.Ytjhhjefobbhdlaa
