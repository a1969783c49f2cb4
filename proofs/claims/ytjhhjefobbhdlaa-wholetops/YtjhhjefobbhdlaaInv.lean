/-
  A region that draws its order, by an invariant over what has run, the frame and the world: one obligation for each operation, whatever the order. No program is named here.
-/
import Derived.Test.YtjhhjefobbhdlaaProg
import Derived.RegionTactic
namespace Go.Proofs.Ytjhhjefobbhdlaa
namespace Lm
open Go

theorem count_set : ∀ (l : List Bool) (i : Nat), l[i]? = some false → (l.set i true).count false + 1 = l.count false
  | [], i, h => by simp at h
  | b :: l, 0, h => by
    simp only [List.getElem?_cons_zero, Option.some.injEq] at h
    subst h
    simp
  | b :: l, i + 1, h => by
    have h1 := count_set l i (by simpa using h)
    simp only [List.set_cons_succ, List.count_cons]
    omega

theorem unlisted {l : Array Bool} {j : Nat} (h : l.getD j true = false) : l.toList[j]? = some false := by
  rw [Array.getElem?_toList]
  rw [Array.getD_eq_getD_getElem?] at h
  cases hj : l[j]? with
  | none => rw [hj] at h; simp at h
  | some b => rw [hj] at h; simp at h; rw [h]

/-- By induction over how many operations are left. -/
theorem wpAny_inv {P : Program} {ops : Array Oper} {Q : Exit → Act → World → Prop} {md : Region.Mode} (Inv : Array Bool → Act → World → Prop)
    (hend : ∀ l a w, Inv l a w → Region.ready md ops l = [] → Q .normal a w)
    (hstep : ∀ l a w, Inv l a w → ∀ i, i ∈ Region.ready md ops l → wpOp P ops Q i (fun a' w' => Inv (l.setIfInBounds i true) a' w') a w) :
    ∀ (fuel : Nat) (l : Array Bool) (a : Act) (w : World), l.toList.count false ≤ fuel → Inv l a w → wpAny P md ops Q fuel l a w := by
  intro fuel
  induction fuel with
  | zero =>
    intro l a w hc hI
    have hr : Region.ready md ops l = [] := by
      apply List.eq_nil_iff_forall_not_mem.2
      intro j hj
      have h1 := unlisted (mem_ready.1 hj).1
      have h2 : 0 < l.toList.count false := List.count_pos_iff.2 (List.mem_of_getElem? h1)
      omega
    exact ⟨hr, hend l a w hI hr⟩
  | succ fuel ih =>
    intro l a w hc hI
    refine ⟨hend l a w hI, fun i hi => wpOp_mono (fun a' w' h => ih _ _ _ ?_ h) (hstep l a w hI i hi)⟩
    have h1 := count_set l.toList i (unlisted (mem_ready.1 hi).1)
    have h2 : (l.setIfInBounds i true).toList = l.toList.set i true := by simp
    rw [h2]
    omega

/-- The region, from its head. -/
theorem wp_region_inv {P : Program} {ops : Array Oper} {Q : Exit → Act → World → Prop} {id : Nat} {a : Act} {w : World} (hm : P.follows .mixedOrders = true) (Inv : Array Bool → Act → World → Prop)
    (h0 : Inv (Array.replicate ops.size false) a w.drew)
    (hend : ∀ l a w, Inv l a w → Region.ready .any ops l = [] → Q .normal a w)
    (hstep : ∀ l a w, Inv l a w → ∀ i, i ∈ Region.ready .any ops l → wpOp P ops Q i (fun a' w' => Inv (l.setIfInBounds i true) a' w') a w) : (Code.region id ops true).wp P Q a w := by
  refine wp_region_any hm (wpAny_inv Inv hend hstep ops.size _ a _ ?_ h0)
  simp

/-- An operation that comes up has all that it waits for behind it, and has not come up before. -/
theorem ready_deps {ops : Array Oper} {md : Region.Mode} {l : Array Bool} {i : Nat} {o : Oper} (h : i ∈ Region.ready md ops l) (ho : ops[i]? = some o) : l.getD i true = false ∧ ∀ e ∈ o.after, Region.binds md e = true → l.getD e.on false = true := by
  obtain ⟨h1, o', ho', h2⟩ := mem_ready.1 h
  rw [ho] at ho'
  obtain rfl := Option.some.inj ho'
  exact ⟨h1, h2⟩

/-- Where nothing may come up any more, all has run: each operation waits for earlier ones alone. -/
theorem all_listed {ops : Array Oper} {md : Region.Mode} {l : Array Bool} (hd : (ops.toList.zipIdx.all fun p => p.1.after.all fun e => decide (e.on < p.2)) = true) (hs : l.size = ops.size) (hr : Region.ready md ops l = []) : ∀ j, j < ops.size → l.getD j false = true := by
  intro j
  induction j using Nat.strongRecOn with
  | _ j ih =>
    intro hj
    apply Classical.byContradiction
    intro hn
    have hl : l[j]? = some (l[j]'(by omega)) := Array.getElem?_eq_getElem (by omega)
    have hf : l[j]'(by omega) = false := by
      rw [Array.getD_eq_getD_getElem?, hl] at hn
      simpa using hn
    have hmem : j ∈ Region.ready md ops l := by
      refine mem_ready.2 ⟨by rw [Array.getD_eq_getD_getElem?, hl, hf]; rfl, ops[j], Array.getElem?_eq_getElem hj, fun e he _ => ?_⟩
      have h1 := List.all_eq_true.1 hd (ops[j], j) (by
        rw [List.mem_zipIdx_iff_getElem?]
        simp [hj])
      have h2 : e.on < j := by
        have := Array.all_eq_true_iff_forall_mem.1 h1 e he
        simpa using this
      exact ih e.on h2 (by omega)
    rw [hr] at hmem
    cases hmem

/-- The letters of a frame, one of them written. -/
def upd (u : Nat → Value) (d : Nat) (v : Value) : Nat → Value := fun k => if k = d then v else u k

/-- An operation more has run: its own answer is as it should be, the others' answers stay. D: the slot that an operation writes. -/
theorem post_step {Post : Nat → Value → World → Prop} {D : Nat → Nat} {u : Nat → Value} {i : Nat} {v : Value} {l : Array Bool} {w w' : World} (h : ∀ j, l.getD j false = true → Post j (u (D j)) w)
    (mono : ∀ j x, Post j x w → Post j x w') (inj : ∀ j, j ≠ i → D j ≠ D i) (hi : Post i v w') : ∀ j, (l.setIfInBounds i true).getD j false = true → Post j (upd u (D i) v (D j)) w' := by
  intro j hj
  by_cases e : j = i
  · subst e
    simp only [upd, if_true]
    exact hi
  · rw [getD_set_ne false (fun h => e h.symm)] at hj
    simp only [upd, if_neg (inj j e)]
    exact mono _ _ (h j hj)

theorem post_start {Post : Nat → Value → World → Prop} {D : Nat → Nat} {u : Nat → Value} {n : Nat} {w : World} : ∀ j, (Array.replicate n false).getD j false = true → Post j (u (D j)) w := by
  intro j hj
  simp [Array.getElem?_replicate] at hj
  split at hj <;> simp at hj

end Lm
end Go.Proofs.Ytjhhjefobbhdlaa
