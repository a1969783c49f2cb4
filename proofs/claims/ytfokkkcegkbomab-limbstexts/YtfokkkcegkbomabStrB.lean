/-
  Texts and their bytes; what Parse answers of every text.
-/
import Derived.Test.YtfokkkcegkbomabParse
import Derived.Lib.Strings
namespace Go.Proofs.Ytfokkkcegkbomab
namespace Lm
open Go.RowKit

theorem strOf_bytes (t : ByteArray) : strOfNums (bytesOf t) = t := by
  apply ByteArray.ext
  apply Array.toList_inj.1
  rw [strOfNums_data, bytesOf, List.map_map]
  conv => rhs; rw [← List.map_id t.data.toList]
  apply List.map_congr_left
  intro c _
  simp

theorem bytes_strOf {ds : List Int} (h : Dig ds) : bytesOf (strOfNums ds) = ds := by
  rw [bytesOf, strOfNums_data, List.map_map]
  conv => rhs; rw [← List.map_id ds]
  apply List.map_congr_left
  intro c hc
  have := h c hc
  simp only [Function.comp_apply, id]
  have e : (UInt8.ofNat c.toNat).toNat = c.toNat := by
    simp
    omega
  rw [e]
  omega

theorem dec_len {ds : List Int} {x : Int} (h : IsDec ds x) {m : Nat} (hm : 1 ≤ m) (hx : x < p10 m) : 1 ≤ ds.length ∧ ds.length ≤ m := by
  obtain ⟨h1, h2, h3⟩ := h
  rcases h3 with ⟨_, rfl⟩ | ⟨c, cs, rfl, hc⟩
  · simp; omega
  · have := dval_low h1 hc
    simp only [List.length_cons]
    refine ⟨by omega, ?_⟩
    apply Classical.byContradiction
    intro hn
    have := p10_mono (m := m) (n := cs.length) (by omega)
    omega

theorem strOf_size (ds : List Int) : (strOfNums ds).size = ds.length := strOfNums_size ds

/-- What is left of a text behind its first byte. -/
theorem bytes_tail (t : ByteArray) : bytesOf (t.extract 1 t.size) = (bytesOf t).drop 1 := by
  have : (t.extract 1 t.size).data.toList = t.data.toList.drop 1 := by
    rw [Lib.extract_data]
    rw [List.take_of_length_le (by simp)]
  rw [bytesOf, this, bytesOf, List.map_drop]

theorem tail_val {t : ByteArray} {x : Int} (h : dval (bytesOf t) = x) (h0 : (bytesOf t).getD 0 0 = 48) : dval ((bytesOf t).drop 1) = x := by
  cases hb : bytesOf t with
  | nil => rw [hb] at h; simpa using h
  | cons c cs =>
    rw [hb] at h h0
    simp at h0
    subst h0
    rw [dval_cons48] at h
    simpa using h

theorem end_dec {ds : List Int} {x : Int} (h : Dig ds) (hv : dval ds = x) (hl : 1 ≤ ds.length) (he : ds.length = 1 ∨ ds.getD 0 0 ≠ 48) : IsDec ds x := by
  refine ⟨h, hv, ?_⟩
  cases ds with
  | nil => simp at hl
  | cons c cs =>
    by_cases hc : c = 48
    · rcases he with he | he
      · have : cs = [] := List.eq_nil_of_length_eq_zero (by simpa using he)
        subst this hc
        exact .inl ⟨by rw [← hv]; simp [dval], rfl⟩
      · simp at he
        exact absurd hc he
    · exact .inr ⟨c, cs, rfl, hc⟩

def sizeOf' : Value → Nat | .string s => s.size | _ => 0

set_option maxHeartbeats 400000 in
theorem parse_long (w : World) (s : ByteArray) (h : (5120 : Int) < (s.size : Int)) :
    Calls Try.prog 18 #[.string s] w fun e w' => e = .returned (.tuple #[.slice none 0 0, .int .i64 2]) ∧ Below w.heap.size w w' := by
  go_enter Try.func18, Try.ntmps18
  go_wp2
  go_ret2
  exact ⟨rfl, Below.refl _ _⟩

set_option maxHeartbeats 400000 in
theorem parse_none (w : World) (s : ByteArray) (h : s.size = 0) :
    Calls Try.prog 18 #[.string s] w fun e w' => e = .returned (.tuple #[.slice none 0 0, .int .i64 10]) ∧ Below w.heap.size w w' := by
  have he : s = ByteArray.empty := by
    apply ByteArray.ext
    apply Array.eq_empty_of_size_eq_zero
    simpa using h
  subst he
  go_enter Try.func18, Try.ntmps18
  go_wp2
  go_ret2
  exact ⟨rfl, Below.refl _ _⟩

/-- Every text is refused, or is digits. -/
theorem parse_any (w : World) (s : ByteArray) :
    Calls Try.prog 18 #[.string s] w fun e w' => ((∃ k : Int, (k == 0) = false ∧ e = .returned (.tuple #[.slice none 0 0, .int .i64 k])) ∨ (1 ≤ s.size ∧ s.size ≤ 5120 ∧ Dig (bytesOf s) ∧ ∃ ao cap rs, e = .returned (.tuple #[.slice ao rs.length cap, .int .i64 0]) ∧ Got w' ao cap rs (dval (bytesOf s)))) ∧ Below w.heap.size w w' := by
  by_cases h1 : (5120 : Int) < (s.size : Int)
  · refine (parse_long w s h1).mono ?_
    rintro e w' ⟨rfl, hb⟩
    exact ⟨.inl ⟨2, rfl, rfl⟩, hb⟩
  · by_cases h2 : s.size = 0
    · refine (parse_none w s h2).mono ?_
      rintro e w' ⟨rfl, hb⟩
      exact ⟨.inl ⟨10, rfl, rfl⟩, hb⟩
    · refine (parse_some w s (by omega) (by omega)).mono ?_
      rintro e w' ⟨hr, hb⟩
      rcases hr with ⟨hd, v, rfl, hi⟩ | ⟨_, rfl⟩
      · obtain ⟨ao, cap, rs, rfl, hg⟩ := hi.got
        exact ⟨.inr ⟨by omega, by omega, hd, ao, cap, rs, rfl, hg⟩, hb⟩
      · exact ⟨.inl ⟨10, rfl, rfl⟩, hb⟩

end Lm
end Go.Proofs.Ytfokkkcegkbomab
