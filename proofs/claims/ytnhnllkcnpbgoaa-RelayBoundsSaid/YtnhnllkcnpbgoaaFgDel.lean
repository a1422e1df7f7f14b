/- slices.DeleteFunc of places, by a closure of which one contract is known. Its condition: fewer than 2^20 places. -/
import Derived.Test.YtnhnllkcnpbgoaaFgRow
namespace Go.Proofs.Ytnhnllkcnpbgoaa
open Go.RowKit
set_option maxRecDepth 100000

/-- The place of the first that is idle; none: as many as there are. -/
def firstK (dead : Pl → Bool) (l : List Pl) : Nat := (l.takeWhile fun t => !dead t).length
theorem first_stopF (dead : Pl → Bool) (l : List Pl) (j : Nat) (hj : j ≤ l.length) (h : ∀ i, i < j → dead (l.getD i pl0) = false) (he : j < l.length → dead (l.getD j pl0) = true) : firstK dead l = j := by
  induction l generalizing j with
  | nil => simp at hj; subst hj; rfl
  | cons a l ih =>
    cases j with
    | zero =>
      have := he (by simp)
      simp only [List.getD_cons_zero] at this
      simp [firstK, this]
    | succ j =>
      have h0 := h 0 (by omega)
      simp only [List.getD_cons_zero] at h0
      have := ih j (by simpa using hj) (fun r hr => by simpa using h (r + 1) (by omega)) (fun hlt => by simpa using he (by simpa using hlt))
      simp only [firstK] at this ⊢
      simp [h0, this]
def idxK (dead : Pl → Bool) (l : List Pl) : Int := if firstK dead l < l.length then (firstK dead l : Int) else -1

/-- The ones that aren't late. -/
def keepK (dead : Pl → Bool) (l : List Pl) : List Pl := l.filter fun t => !dead t
/-- Zeros in n slots. -/
def zeroF (n : Nat) : List Value := (Builtin.zeroCells (Value.agg #[.int .i64 0, .int .i64 0, .int .i64 0, .int .i64 0, .bool false]).cells n).toList
theorem zeroF_len (n : Nat) : (zeroF n).length = n * 5 := by unfold zeroF; rw [Array.length_toList, zero_size]
theorem zeroF_one (n : Nat) : ∀ u ∈ zeroF n, u.oneCell' = true := by
  intro u hu
  obtain ⟨i, hi, rfl⟩ := List.getElem_of_mem hu
  rw [zeroF_len] at hi
  simp only [zeroF, Builtin.zeroCells, Value.cells, Array.getElem_toList, Array.getElem_map, Array.getElem_range]
  have h3 : i % 5 = 0 ∨ i % 5 = 1 ∨ i % 5 = 2 ∨ i % 5 = 3 ∨ i % 5 = 4 := by omega
  rcases h3 with h3 | h3 | h3 | h3 | h3
  all_goals
    show ((#[Value.int .i64 0, .int .i64 0, .int .i64 0, .int .i64 0, .bool false] : Array Value)[i % 5]!).oneCell' = true
    rw [h3]; rfl
theorem run_clear_f (w : World) (ty : TypeId) (b o n c : Nat) (hn : 0 < n) (hc : ∀ j, j < n * 5 → (w.cell? ⟨b, o + j, none⟩).isSome = true) (hf : ∀ j, j < n * 5 → w.frozen? ⟨b, o + j, none⟩ = false) :
    (Builtin.clear_ #[25] ty #[.slice (some ⟨b, o, none⟩) n c]).run Try.prog w = .ok (.tuple #[]) (w.setCells b o (zeroF n)) := by
  have hst := run_storeCells_cells (P := Try.prog) b o (zeroF n) 0 w (by rw [zeroF_len]; simpa using hc) (by rw [zeroF_len]; simpa using hf) (zeroF_one n)
  simp only [Nat.add_zero] at hst
  have hz := Try.zeroValue49
  obtain ⟨m, rfl⟩ : ∃ m, n = m + 1 := ⟨n - 1, by omega⟩
  have hzc : (Builtin.zeroCells (Value.agg #[.int .i64 0, .int .i64 0, .int .i64 0, .int .i64 0, .bool false]).cells (m + 1)).toList = zeroF (m + 1) := rfl
  simp [Builtin.clear_, run_underlying Try.underlying25, hz, hzc, hst]
/-- Where the loop stands: what is kept ahead of i, what came from j on. -/
def FilK (dead : Pl → Bool) (l L : List Pl) (i j : Nat) : Prop := L.length = l.length ∧ L.take i = keepK dead (l.take j) ∧ L.drop j = l.drop j
theorem keep_takeF (dead : Pl → Bool) (l : List Pl) (j : Nat) (hj : j < l.length) : keepK dead (l.take (j + 1)) = keepK dead (l.take j) ++ (if dead (l.getD j pl0) then [] else [l.getD j pl0]) := by
  have e : l.getD j pl0 = l[j] := by simp [List.getD_eq_getElem?_getD, List.getElem?_eq_getElem hj]
  rw [List.take_succ_eq_append_getElem hj, e]
  unfold keepK
  rw [List.filter_append]
  congr 1
  cases h : dead l[j] <;> simp [h]
theorem drop_atF (l L : List Pl) (j : Nat) (h : L.drop j = l.drop j) (k : Nat) (hk : j ≤ k) : L.getD k pl0 = l.getD k pl0 := by
  have e := congrArg (fun z => z[k - j]?) h
  simp only [List.getElem?_drop] at e
  rw [show j + (k - j) = k by omega] at e
  simp only [List.getD_eq_getElem?_getD, e]
theorem fil_lateF {dead : Pl → Bool} {l L : List Pl} {i j : Nat} (h : FilK dead l L i j) (hj : j < l.length) (hl : dead (l.getD j pl0) = true) : FilK dead l L i (j + 1) := by
  refine ⟨h.1, by rw [keep_takeF dead l j hj, if_pos hl, List.append_nil]; exact h.2.1, ?_⟩
  rw [← List.drop_drop, ← List.drop_drop, h.2.2]
theorem fil_keepF {dead : Pl → Bool} {l L : List Pl} {i j : Nat} (h : FilK dead l L i j) (hi : i < j) (hj : j < l.length) (hl : dead (l.getD j pl0) = false) : FilK dead l (L.set i (l.getD j pl0)) (i + 1) (j + 1) := by
  have hL := h.1
  refine ⟨by rw [List.length_set]; exact hL, ?_, ?_⟩
  · rw [keep_takeF dead l j hj, hl, ← h.2.1]
    rw [List.take_succ_eq_append_getElem (by rw [List.length_set]; omega), List.take_set_of_le (Nat.le_refl _)]
    simp
  · rw [List.drop_set_of_lt (by omega), ← List.drop_drop, ← List.drop_drop, h.2.2]
theorem fil_endF {dead : Pl → Bool} {l L : List Pl} {i : Nat} (h : FilK dead l L i l.length) : L.take i = keepK dead l := by rw [h.2.1, List.take_length]
theorem fil_startF (dead : Pl → Bool) (l : List Pl) (h : firstK dead l < l.length) : FilK dead l l (firstK dead l) (firstK dead l + 1) := by
  refine ⟨rfl, ?_, rfl⟩
  induction l with
  | nil => simp at h
  | cons a l ih =>
    cases hl : dead a with
    | true => simp [firstK, keepK, hl]
    | false =>
      have e : firstK dead (a :: l) = firstK dead l + 1 := by simp [firstK, hl]
      rw [e] at h ⊢
      rw [List.take_succ_cons, ih (by simpa using h), List.take_succ_cons]
      simp [keepK, hl]
theorem keep_noneF (dead : Pl → Bool) (l : List Pl) (h : ¬ firstK dead l < l.length) : keepK dead l = l := by
  induction l with
  | nil => rfl
  | cons a l ih =>
    cases hl : dead a with
    | true => simp [firstK, hl] at h
    | false =>
      have e : firstK dead (a :: l) = firstK dead l + 1 := by simp [firstK, hl]
      rw [e] at h
      have := ih (by simpa using h)
      simp only [keepK, List.filter_cons, hl, Bool.not_false, if_true] at this ⊢
      rw [this]
/-- A row of slots that is one of the program's own, by its block. -/
structure RowF (w : World) (base g c : Nat) (l : List Pl) : Prop where
  own : OwnL 49 w base (some ⟨g, 0, none⟩) c l
theorem RowF.cell {w : World} {base g c : Nat} {l : List Pl} (h : RowF w base g c l) (k : Nat) (hk : k < l.length) : PlCells w g (k * 5) (l.getD k pl0) := by
  obtain ⟨b, off, e, _, p⟩ := h.own.at_ k hk
  injection e with e
  injection e with e1 e2
  subst e1 e2
  rwa [Nat.zero_add] at p
theorem own_setkF {w : World} {base g n c size : Nat} {e : TypeId} {xs : List Value} (h : w.ownsRow base e size (.slice (some ⟨g, 0, none⟩) n c) n xs) (j : Nat) (u : Value) : (w.setCell ⟨g, j, none⟩ u).ownsRow base e size (.slice (some ⟨g, 0, none⟩) n c) n (xs.set j u) := by
  refine ⟨by rw [List.length_set]; exact h.1, .inr ?_⟩
  rcases h.2 with ⟨h, _⟩ | ⟨g', cap, cur, he, hb, hg, hn, hm, hs, ht⟩
  · cases h
  · injection he with e1 e2 e3
    injection e1 with e1
    injection e1 with e1
    subst e1 e3
    refine ⟨g, c, cur.setIfInBounds j u, rfl, hb, ?_, hn, hm, by simpa using hs, ?_⟩
    · simp [World.setCell, Array.getElem?_modify, hg]
    · rw [Array.toList_setIfInBounds, List.take_set, ht]
theorem plL_put (l : List Pl) (i : Nat) (x : Pl) (hi : i < l.length) : plL (l.set i x) = (((((plL l).set (i * 5) (.int .i64 x.v)).set (i * 5 + 1) (.int .i64 x.m)).set (i * 5 + 2) (.int .i64 x.p)).set (i * 5 + 3) (.int .i64 x.s)).set (i * 5 + 4) (.bool x.st) := by
  induction l generalizing i with
  | nil => simp at hi
  | cons a l ih =>
    cases i with
    | zero => simp [plL, Pl.cells]
    | succ i =>
      have e : a.cells.length = 5 := rfl
      have s : ∀ (L : List Value) (j : Nat) (u : Value), (a.cells ++ L).set ((i + 1) * 5 + j) u = a.cells ++ L.set (i * 5 + j) u := fun L j u => by
        rw [List.set_append_right _ _ (by omega), e, show (i + 1) * 5 + j - 5 = i * 5 + j by omega]
      rw [List.set_cons_succ, plL, ih i (by simpa using hi), plL]
      rw [show (a.cells ++ plL l).set ((i + 1) * 5) (.int .i64 x.v) = a.cells ++ (plL l).set (i * 5) (.int .i64 x.v) from s _ 0 _, s, s, s, s]
def putF (w : World) (g i : Nat) (x : Pl) : World := ((((w.setCell ⟨g, i * 5, none⟩ (.int .i64 x.v)).setCell ⟨g, i * 5 + 1, none⟩ (.int .i64 x.m)).setCell ⟨g, i * 5 + 2, none⟩ (.int .i64 x.p)).setCell ⟨g, i * 5 + 3, none⟩ (.int .i64 x.s)).setCell ⟨g, i * 5 + 4, none⟩ (.bool x.st)
theorem RowF.set_ {w : World} {base g c : Nat} {l : List Pl} (h : RowF w base g c l) (i : Nat) (x : Pl) (hi : i < l.length) : RowF (putF w g i x) base g c (l.set i x) := by
  have h1 := own_setkF (own_setkF (own_setkF (own_setkF (own_setkF h.own (i * 5) (.int .i64 x.v)) (i * 5 + 1) (.int .i64 x.m)) (i * 5 + 2) (.int .i64 x.p)) (i * 5 + 3) (.int .i64 x.s)) (i * 5 + 4) (.bool x.st)
  refine ⟨?_⟩
  unfold OwnL
  rw [List.length_set, plL_put l i x hi]
  exact h1
theorem putF_touch {w0 w : World} {g i : Nat} {x : Pl} (h : Touch (· = g) w0 w) : Touch (· = g) w0 (putF w g i x) := ((((h.set_ (fun _ => rfl) _).set_ (fun _ => rfl) _).set_ (fun _ => rfl) _).set_ (fun _ => rfl) _).set_ (fun _ => rfl) _
theorem RowF.below {w w' : World} {base g c : Nat} {l : List Pl} (h : RowF w base g c l) (b : Below w.heap.size w w') : RowF w' base g c l :=
  ⟨own_heap h.own fun k hk => b.block k (World.ownsRow.lt h.own k hk).2⟩
theorem row_cutF {w : World} {base g c i : Nat} {L : List Pl} (h : RowF w base g c L) (hi : i ≤ L.length) (vs : List Value) : OwnL 49 (w.setCells g (i * 5) vs) base (some ⟨g, 0, none⟩) c (L.take i) := by
  have hc := (own_cap h.own).1
  have hl : (L.take i).length = i := by rw [List.length_take]; omega
  rcases h.own.2 with ⟨e0, _⟩ | ⟨g', cap', cur, e0, hb, hg, hn', hm, hs, ht⟩
  · cases e0
  · injection e0 with e1 _ e3
    injection e1 with e1
    injection e1 with e1
    subst e1 e3
    obtain ⟨c2, h2, z2⟩ := setCells_blk g vs (i * 5) w cur hg
    refine own_of_cells h2 hb (by omega) (by rw [hl]; omega) hm (by rw [plL_len]) (fun j u hu => ?_)
    rw [plL_take, List.getElem?_take] at hu
    split at hu
    · rename_i hj
      rw [World.cell?_setCells_out g _ _ _ _ (fun _ _ => Or.inl hj)]
      have := h.own.cells (g := g) rfl j u hu
      rwa [Addr.add_lit, Nat.zero_add] at this
    · cases hu
end Go.Proofs.Ytnhnllkcnpbgoaa
