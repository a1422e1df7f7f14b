/- slices.DeleteFunc of the timers that are late. Its condition: fewer than 2^20 timers. -/
import Derived.Test.YtogghcbijdljkaaWdue
namespace Go.Proofs.Ytogghcbijdljkaa
open Go.RowKit

/-- The ones that aren't late. -/
def keepT (now : Int) (l : List Tm) : List Tm := l.filter fun t => !lateB now t
theorem zero_tms (n : Nat) : (Builtin.zeroCells (Value.agg #[.int .i64 0, .int .i64 0]).cells n).toList = List.replicate (n * 2) (.int .i64 0) := by
  apply List.ext_getElem
  · rw [Array.length_toList, zero_size]; simp
  · intro i h1 h2
    simp only [Builtin.zeroCells, Value.cells, Array.getElem_toList, Array.getElem_map, Array.getElem_range, List.getElem_replicate]
    have h3 : i % 2 = 0 ∨ i % 2 = 1 := by omega
    rcases h3 with h3 | h3
    · show (#[Value.int .i64 0, .int .i64 0] : Array Value)[i % 2]! = _
      rw [h3]; rfl
    · show (#[Value.int .i64 0, .int .i64 0] : Array Value)[i % 2]! = _
      rw [h3]; rfl
theorem run_clear_tms (w : World) (ty : TypeId) (b o n c : Nat) (hn : 0 < n) (hc : ∀ j, j < n * 2 → (w.cell? ⟨b, o + j, none⟩).isSome = true) (hf : ∀ j, j < n * 2 → w.frozen? ⟨b, o + j, none⟩ = false) :
    (Builtin.clear_ #[38] ty #[.slice (some ⟨b, o, none⟩) n c]).run Try.prog w = .ok (.tuple #[]) (w.setCells b o (List.replicate (n * 2) (.int .i64 0))) := by
  have hst := run_storeCells_cells (P := Try.prog) b o (List.replicate (n * 2) (.int .i64 0)) 0 w (by simpa using hc) (by simpa using hf) (fun v hv => by rw [List.eq_of_mem_replicate hv]; rfl)
  simp only [Nat.add_zero] at hst
  have hz := Try.zeroValue46
  obtain ⟨m, rfl⟩ : ∃ m, n = m + 1 := ⟨n - 1, by omega⟩
  have hzc := zero_tms (m + 1)
  simp [Builtin.clear_, run_underlying Try.underlying38, hz, hzc, hst]
/-- Where the loop stands: what is kept ahead of i, what came from j on. -/
def Fil (now : Int) (l L : List Tm) (i j : Nat) : Prop := L.length = l.length ∧ L.take i = keepT now (l.take j) ∧ L.drop j = l.drop j
theorem keep_take (now : Int) (l : List Tm) (j : Nat) (hj : j < l.length) : keepT now (l.take (j + 1)) = keepT now (l.take j) ++ (if lateB now (l.getD j tm0) then [] else [l.getD j tm0]) := by
  have e : l.getD j tm0 = l[j] := by simp [List.getD_eq_getElem?_getD, List.getElem?_eq_getElem hj]
  rw [List.take_succ_eq_append_getElem hj, e]
  unfold keepT
  rw [List.filter_append]
  congr 1
  cases h : lateB now l[j] <;> simp [h]
theorem drop_at (l L : List Tm) (j : Nat) (h : L.drop j = l.drop j) (k : Nat) (hk : j ≤ k) : L.getD k tm0 = l.getD k tm0 := by
  have e := congrArg (fun z => z[k - j]?) h
  simp only [List.getElem?_drop] at e
  rw [show j + (k - j) = k by omega] at e
  simp only [List.getD_eq_getElem?_getD, e]
theorem fil_late {now : Int} {l L : List Tm} {i j : Nat} (h : Fil now l L i j) (hj : j < l.length) (hl : lateB now (l.getD j tm0) = true) : Fil now l L i (j + 1) := by
  refine ⟨h.1, by rw [keep_take now l j hj, if_pos hl, List.append_nil]; exact h.2.1, ?_⟩
  rw [← List.drop_drop, ← List.drop_drop, h.2.2]
theorem fil_keep {now : Int} {l L : List Tm} {i j : Nat} (h : Fil now l L i j) (hi : i < j) (hj : j < l.length) (hl : lateB now (l.getD j tm0) = false) : Fil now l (L.set i (l.getD j tm0)) (i + 1) (j + 1) := by
  have hL := h.1
  refine ⟨by rw [List.length_set]; exact hL, ?_, ?_⟩
  · rw [keep_take now l j hj, hl, ← h.2.1]
    rw [List.take_succ_eq_append_getElem (by rw [List.length_set]; omega), List.take_set_of_le (Nat.le_refl _)]
    simp
  · rw [List.drop_set_of_lt (by omega), ← List.drop_drop, ← List.drop_drop, h.2.2]
theorem fil_end {now : Int} {l L : List Tm} {i : Nat} (h : Fil now l L i l.length) : L.take i = keepT now l := by rw [h.2.1, List.take_length]
theorem fil_start (now : Int) (l : List Tm) (h : firstL now l < l.length) : Fil now l l (firstL now l) (firstL now l + 1) := by
  refine ⟨rfl, ?_, rfl⟩
  induction l with
  | nil => simp at h
  | cons a l ih =>
    cases hl : lateB now a with
    | true => simp [firstL, keepT, hl]
    | false =>
      have e : firstL now (a :: l) = firstL now l + 1 := by simp [firstL, hl]
      rw [e] at h ⊢
      rw [List.take_succ_cons, ih (by simpa using h), List.take_succ_cons]
      simp [keepT, hl]
theorem keep_none (now : Int) (l : List Tm) (h : ¬ firstL now l < l.length) : keepT now l = l := by
  induction l with
  | nil => rfl
  | cons a l ih =>
    cases hl : lateB now a with
    | true => simp [firstL, hl] at h
    | false =>
      have e : firstL now (a :: l) = firstL now l + 1 := by simp [firstL, hl]
      rw [e] at h
      have := ih (by simpa using h)
      simp only [keepT, List.filter_cons, hl, Bool.not_false, if_true] at this ⊢
      rw [this]
end Go.Proofs.Ytogghcbijdljkaa
