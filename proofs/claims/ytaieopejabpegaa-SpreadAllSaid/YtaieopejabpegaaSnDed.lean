/- slices.Compact of attributes: each once, as plain lists; the walk. Its condition: at most 2^20 attributes. -/
import Derived.Test.YtaieopejabpegaaSnSort
import Derived.Test.YtaieopejabpegaaSnIdx
import Derived.Test.YtaieopejabpegaaSnUp
import Derived.Lib.AppendZerosOnto
import Derived.Lib.Overlaps
import Derived.Laws.Externs
import Derived.Laws.IdiomCopy
import Derived.Shelf.RegionOpenPlain
import Derived.BigQuiet
namespace Go.Proofs.Ytaieopejabpegaa
open Go.RowKit
set_option maxRecDepth 100000

/-- The first p of a row, each that equals the one ahead of it left away. -/
def ddT (l : List At) : Nat → List At
  | 0 => []
  | p + 1 => if p = 0 ∨ l.getD p at0 ≠ l.getD (p - 1) at0 then ddT l p ++ [l.getD p at0] else ddT l p
theorem dd_new {l : List At} {p : Nat} (h : p = 0 ∨ l.getD p at0 ≠ l.getD (p - 1) at0) : ddT l (p + 1) = ddT l p ++ [l.getD p at0] := by
  show (if _ then _ else _) = _
  exact if_pos h
theorem dd_old {l : List At} {p : Nat} (h0 : p ≠ 0) (h : l.getD p at0 = l.getD (p - 1) at0) : ddT l (p + 1) = ddT l p := by
  show (if _ then _ else _) = _
  exact if_neg (by rintro (c | c); exact h0 c; exact c h)
theorem dd_len (l : List At) (p : Nat) : (ddT l p).length ≤ p := by
  induction p with
  | zero => exact Nat.le_refl _
  | succ p ih =>
    by_cases h : p = 0 ∨ l.getD p at0 ≠ l.getD (p - 1) at0
    · rw [dd_new h, List.length_append]
      simp only [List.length_singleton]
      omega
    · rw [dd_old (fun c => h (.inl c)) (Classical.byContradiction fun c => h (.inr c))]
      omega
theorem dd_mem (l : List At) (p : Nat) (x : At) : x ∈ ddT l p ↔ ∃ i, i < p ∧ l.getD i at0 = x := by
  induction p with
  | zero => exact ⟨(fun h => nomatch h), fun ⟨i, hi, _⟩ => absurd hi (Nat.not_lt_zero i)⟩
  | succ p ih =>
    by_cases h : p = 0 ∨ l.getD p at0 ≠ l.getD (p - 1) at0
    · rw [dd_new h, List.mem_append, ih]
      constructor
      · rintro (⟨i, hi, e⟩ | e)
        · exact ⟨i, by omega, e⟩
        · exact ⟨p, by omega, (List.mem_singleton.1 e).symm⟩
      · rintro ⟨i, hi, e⟩
        by_cases c : i = p
        · subst c
          exact .inr (List.mem_singleton.2 e.symm)
        · exact .inl ⟨i, by omega, e⟩
    · have h0 : p ≠ 0 := fun c => h (.inl c)
      have h1 : l.getD p at0 = l.getD (p - 1) at0 := Classical.byContradiction fun c => h (.inr c)
      rw [dd_old h0 h1, ih]
      constructor
      · rintro ⟨i, hi, e⟩
        exact ⟨i, by omega, e⟩
      · rintro ⟨i, hi, e⟩
        by_cases c : i = p
        · subst c
          exact ⟨i - 1, by omega, h1.symm.trans e⟩
        · exact ⟨i, by omega, e⟩
/-- Of a row in order what is left rises. -/
theorem dd_up {l : List At} (hs : ∀ i, i + 1 < l.length → ¬ ltA (l.getD (i + 1) at0) (l.getD i at0)) (p : Nat) (hp : p ≤ l.length) :
    (ddT l p).Pairwise ltA ∧ ∀ x ∈ ddT l p, ¬ ltA (l.getD (p - 1) at0) x := by
  induction p with
  | zero => exact ⟨List.Pairwise.nil, fun x h => by cases h⟩
  | succ p ih =>
    obtain ⟨i1, i2⟩ := ih (by omega)
    show (ddT l (p + 1)).Pairwise ltA ∧ ∀ x ∈ ddT l (p + 1), ¬ ltA (l.getD p at0) x
    by_cases h0 : p = 0
    · subst h0
      rw [dd_new (.inl rfl)]
      refine ⟨by simp [ddT], fun x hx => ?_⟩
      have hx : x ∈ [l.getD 0 at0] := hx
      rw [List.mem_singleton.1 hx]
      exact ltA_irrefl _
    · have hle := hs (p - 1) (by omega)
      rw [show p - 1 + 1 = p by omega] at hle
      by_cases h : l.getD p at0 = l.getD (p - 1) at0
      · rw [dd_old h0 h, h]
        exact ⟨i1, i2⟩
      · rw [dd_new (.inr h)]
        have hlt : ltA (l.getD (p - 1) at0) (l.getD p at0) := Classical.byContradiction fun c => h (ltA_total _ _ hle c)
        have hx : ∀ x ∈ ddT l p, ltA x (l.getD p at0) := fun x hx => by
          have h1 := i2 x hx
          unfold ltA at *
          omega
        refine ⟨List.pairwise_append.2 ⟨i1, by simp, fun x hx' y hy => ?_⟩, fun x hx' => ?_⟩
        · rw [List.mem_singleton.1 hy]
          exact hx x hx'
        · rcases List.mem_append.1 hx' with hx' | hx'
          · have := hx x hx'
            unfold ltA at *
            omega
          · rw [List.mem_singleton.1 hx']
            exact ltA_irrefl _
theorem sortA_up (l : List At) (i : Nat) (hi : i + 1 < (sortA l).length) : ¬ ltA ((sortA l).getD (i + 1) at0) ((sortA l).getD i at0) := by
  have hp : (sortA l).Pairwise fun x y => (!(ltOf cmpA) y x) = true := List.pairwise_mergeSort (fun a b c h1 h2 => by
      simp only [Bool.not_eq_true', lt_false] at h1 h2 ⊢
      unfold ltA at *
      omega) (fun a b => by
      by_cases h : ltA b a
      · have h2 : ¬ ltA a b := by unfold ltA at *; omega
        simp [lt_cmp, h, h2]
      · simp [lt_cmp, h]) l
  have := List.pairwise_iff_getElem.1 hp i (i + 1) (by omega) hi (by omega)
  simp only [Bool.not_eq_true', lt_false] at this
  rw [List.getD_eq_getElem?_getD, List.getElem?_eq_getElem hi, List.getD_eq_getElem?_getD, List.getElem?_eq_getElem (by omega : i < (sortA l).length)]
  exact this
/-- What All answers, of all that came. -/
def allA (l : List At) : List At := ddT (sortA l) l.length
theorem allA_mem (l : List At) (x : At) : x ∈ allA l ↔ x ∈ l := by
  unfold allA
  rw [dd_mem, ← (sortA_perm l).mem_iff]
  constructor
  · rintro ⟨i, hi, rfl⟩
    rw [List.getD_eq_getElem?_getD, List.getElem?_eq_getElem (by rw [sortA_length]; exact hi)]
    exact List.getElem_mem _
  · intro h
    obtain ⟨i, hi, e⟩ := List.mem_iff_getElem.1 h
    refine ⟨i, by rw [sortA_length] at hi; exact hi, ?_⟩
    rw [List.getD_eq_getElem?_getD, List.getElem?_eq_getElem hi]
    exact e
theorem allA_up (l : List At) : (allA l).Pairwise ltA := (dd_up (sortA_up l) l.length (by rw [sortA_length]; exact Nat.le_refl _)).1
theorem allA_len (l : List At) : (allA l).length ≤ l.length := dd_len _ _
/-- Compact's second loop: what is kept ahead of k, what came from p - 1 on. -/
structure Cp (l L : List At) (k p : Nat) : Prop where
  len : L.length = l.length
  top : L.take k = ddT l p
  kp : k < p
  k0 : 0 < k
  pn : p ≤ l.length
  rest : ∀ i, p - 1 ≤ i → L.getD i at0 = l.getD i at0
theorem Cp.kl {l L : List At} {k p : Nat} (h : Cp l L k p) : (ddT l p).length = k := by
  rw [← h.top, List.length_take]
  have := h.len
  have := h.pn
  have := h.kp
  omega
theorem Cp.old {l L : List At} {k p : Nat} (h : Cp l L k p) (hp : p < l.length) (e : l.getD p at0 = l.getD (p - 1) at0) : Cp l L k (p + 1) :=
  ⟨h.len, by rw [dd_old (by have := h.kp; omega) e]; exact h.top, by have := h.kp; omega, h.k0, hp, fun i hi => h.rest i (by omega)⟩
theorem Cp.new {l L : List At} {k p : Nat} (h : Cp l L k p) (hp : p < l.length) (e : l.getD p at0 ≠ l.getD (p - 1) at0) : Cp l (L.set k (l.getD p at0)) (k + 1) (p + 1) := by
  have hk := h.kp
  have hL := h.len
  refine ⟨by rw [List.length_set]; exact hL, ?_, by omega, by omega, hp, fun i hi => ?_⟩
  · rw [dd_new (.inr e), ← h.top]
    rw [List.take_succ_eq_append_getElem (by rw [List.length_set]; omega), List.take_set_of_le (Nat.le_refl _)]
    simp
  · rw [List.getD_eq_getElem?_getD, List.getElem?_set_ne (by omega), ← List.getD_eq_getElem?_getD]
    exact h.rest i (by omega)
theorem Cp.start {l : List At} {k : Nat} (hk : k < l.length) (h0 : 0 < k) (h : ddT l k = l.take k) (e : l.getD k at0 = l.getD (k - 1) at0) : Cp l l k (k + 1) :=
  ⟨rfl, by rw [dd_old (by omega) e]; exact h.symm, by omega, h0, hk, fun _ _ => rfl⟩
theorem dd_take {l : List At} {k : Nat} (hk : k < l.length) (h : ddT l k = l.take k) (e : k = 0 ∨ l.getD k at0 ≠ l.getD (k - 1) at0) : ddT l (k + 1) = l.take (k + 1) := by
  rw [dd_new e, h, List.take_succ_eq_append_getElem hk]
  congr 1
  rw [List.getD_eq_getElem?_getD, List.getElem?_eq_getElem hk]
  rfl
/-- The row in memory. -/
structure RowC (w : World) (base g c : Nat) (l : List At) : Prop where
  own : OwnA w base (some ⟨g, 0, none⟩) c l
theorem RowC.cell {w : World} {base g c : Nat} {l : List At} (h : RowC w base g c l) (k : Nat) (hk : k < l.length) : w.cell? ⟨g, k * 2, none⟩ = some (.int .i64 (l.getD k at0).t) ∧ w.cell? ⟨g, k * 2 + 1, none⟩ = some (.int .i64 (l.getD k at0).v) := by
  obtain ⟨b, off, e, _, p0, p1⟩ := h.own.at_ k hk
  injection e with e
  injection e with e1 e2
  subst e1 e2
  rw [Nat.zero_add] at p0 p1
  exact ⟨p0, p1⟩
theorem RowC.set_ {w : World} {base g c : Nat} {l : List At} (h : RowC w base g c l) (i : Nat) (x : At) (hi : i < l.length) : RowC ((w.setCell ⟨g, i * 2, none⟩ (.int .i64 x.t)).setCell ⟨g, i * 2 + 1, none⟩ (.int .i64 x.v)) base g c (l.set i x) := by
  have h1 := own_put (own_put h.own (i * 2) (.int .i64 x.t)) (i * 2 + 1) (.int .i64 x.v)
  have e : atL (l.set i x) = ((atL l).set (i * 2) (.int .i64 x.t)).set (i * 2 + 1) (.int .i64 x.v) := by
    clear h h1
    induction l generalizing i with
    | nil => simp at hi
    | cons a l ih =>
      cases i with
      | zero => simp [atL, At.cells]
      | succ i =>
        rw [List.set_cons_succ, atL, ih i (by simpa using hi), atL, List.set_append_right _ _ (by simp [At.cells]; omega), List.set_append_right _ _ (by simp [At.cells]; omega)]
        congr 2
        · congr 1
          simp [At.cells]; omega
        · simp [At.cells]; omega
  refine ⟨?_⟩
  unfold OwnA
  rw [List.length_set, e]
  exact h1
theorem RowC.below {w w' : World} {base g c : Nat} {l : List At} (h : RowC w base g c l) (b : Below w.heap.size w w') : RowC w' base g c l :=
  ⟨own_heap h.own fun k hk => b.block k (World.ownsRow.lt h.own k hk).2⟩
theorem RowC.drewN {w : World} {base g c : Nat} {l : List At} (h : RowC w base g c l) (q : Nat) : RowC (w.drewN q) base g c l := ⟨h.own⟩
theorem setCells_blk {t : TypeId} (b : Nat) : ∀ (vs : List Value) (o : Nat) (w : World) (cur : Array Value), w.heap[b]? = some (.cells cur t (0, 0)) → ∃ cur', (w.setCells b o vs).heap[b]? = some (.cells cur' t (0, 0)) ∧ cur'.size = cur.size
  | [], _, _, cur, h => ⟨cur, h, rfl⟩
  | v :: r, o, w, cur, h => by
    obtain ⟨c2, h2, h3⟩ := setCells_blk b r (o + 1) (w.setCell ⟨b, o, none⟩ v) (cur.setIfInBounds o v) (Blk.set_ (show Blk w b t cur from h) o v)
    exact ⟨c2, h2, by simpa using h3⟩
theorem setCells_heap (b : Nat) : ∀ (vs : List Value) (o : Nat) (w : World) (k : Nat), k ≠ b → (w.setCells b o vs).heap[k]? = w.heap[k]?
  | [], _, _, _, _ => rfl
  | v :: r, o, w, k, h => (setCells_heap b r (o + 1) (w.setCell ⟨b, o, none⟩ v) k h).trans (Below.heap_setCell w ⟨b, o, none⟩ v k h)
theorem setCells_size (b : Nat) : ∀ (vs : List Value) (o : Nat) (w : World), (w.setCells b o vs).heap.size = w.heap.size
  | [], _, _ => rfl
  | v :: r, o, w => (setCells_size b r (o + 1) (w.setCell ⟨b, o, none⟩ v)).trans (by simp [World.setCell])
theorem setCells_rest (b : Nat) : ∀ (vs : List Value) (o : Nat) (w : World), (w.setCells b o vs).os = w.os ∧ (w.setCells b o vs).tape = w.tape ∧ (w.setCells b o vs).output = w.output
  | [], _, _ => ⟨rfl, rfl, rfl⟩
  | v :: r, o, w => setCells_rest b r (o + 1) (w.setCell ⟨b, o, none⟩ v)
theorem setCells_touch (b : Nat) (vs : List Value) (o : Nat) (w : World) : Touch (· = b) w (w.setCells b o vs) :=
  ⟨(setCells_rest b vs o w).1, (setCells_rest b vs o w).2.1, (setCells_rest b vs o w).2.2, by rw [setCells_size]; exact Nat.le_refl _, fun k _ hk => setCells_heap b vs o w k hk⟩
theorem own_of_cells {w : World} {base g n c k : Nat} {e : TypeId} {cur : Array Value} {xs : List Value} (hg : w.heap[g]? = some (.cells cur e (0, 0))) (hb : base ≤ g) (hs : cur.size = c * k) (hn : n ≤ c) (hm : c ≤ maxLen) (hx : xs.length = n * k) (hc : ∀ j u, xs[j]? = some u → w.cell? ⟨g, j, none⟩ = some u) :
    w.ownsRow base e k (.slice (some ⟨g, 0, none⟩) n c) n xs := by
  refine ⟨hx, .inr ⟨g, c, cur, rfl, hb, hg, hn, hm, hs, ?_⟩⟩
  have hle : n * k ≤ cur.size := by rw [hs]; exact Nat.mul_le_mul_right _ hn
  apply List.ext_getElem?
  intro j
  rw [List.getElem?_take]
  by_cases hj : j < n * k
  · rw [if_pos hj]
    have h1 := hc j xs[j] (List.getElem?_eq_getElem (by omega))
    have h2 : w.cell? ⟨g, j, none⟩ = cur[j]? := Blk.cell (show Blk w g e cur from hg) j
    rw [List.getElem?_eq_getElem (show j < xs.length by omega), ← h1, h2, Array.getElem?_toList]
  · rw [if_neg hj, List.getElem?_eq_none (by omega)]

theorem zero_size (k : Nat) : (Builtin.zeroCells (Value.agg #[.int .i64 0, .int .i64 0]).cells k).size = k * 2 := by
  simp [Builtin.zeroCells, Value.cells]
theorem zero_ats (n : Nat) : (Builtin.zeroCells (Value.agg #[.int .i64 0, .int .i64 0]).cells n).toList = List.replicate (n * 2) (.int .i64 0) := by
  apply List.ext_getElem
  · rw [Array.length_toList, zero_size]; simp
  · intro i h1 h2
    simp only [Builtin.zeroCells, Value.cells, Array.getElem_toList, Array.getElem_map, Array.getElem_range, List.getElem_replicate]
    have h3 : i % 2 = 0 ∨ i % 2 = 1 := by omega
    rcases h3 with h3 | h3
    · show (#[Value.int .i64 0, .int .i64 0] : Array Value)[i % 2]! = _
      rw [h3]; rfl
    · show (#[Value.int .i64 0, .int .i64 0] : Array Value)[i % 2]! = _
      rw [h3]; rfl
theorem run_clear_ats (w : World) (ty : TypeId) (b o n c : Nat) (hn : 0 < n) (hc : ∀ j, j < n * 2 → (w.cell? ⟨b, o + j, none⟩).isSome = true) (hf : ∀ j, j < n * 2 → w.frozen? ⟨b, o + j, none⟩ = false) :
    (Builtin.clear_ #[33] ty #[.slice (some ⟨b, o, none⟩) n c]).run Try.prog w = .ok (.tuple #[]) (w.setCells b o (List.replicate (n * 2) (.int .i64 0))) := by
  have hst := run_storeCells_cells (P := Try.prog) b o (List.replicate (n * 2) (.int .i64 0)) 0 w (by simpa using hc) (by simpa using hf) (fun v hv => by rw [List.eq_of_mem_replicate hv]; rfl)
  simp only [Nat.add_zero] at hst
  have hz := Try.zeroValue24
  obtain ⟨m, rfl⟩ : ∃ m, n = m + 1 := ⟨n - 1, by omega⟩
  have hzc := zero_ats (m + 1)
  simp [Builtin.clear_, run_underlying Try.underlying33, hz, hzc, hst]
theorem atL_take (l : List At) (i : Nat) : atL (l.take i) = (atL l).take (i * 2) := by
  induction l generalizing i with
  | nil => simp [atL]
  | cons a l ih =>
    cases i with
    | zero => simp [atL]
    | succ i =>
      rw [List.take_succ_cons, atL, ih, atL, show (i + 1) * 2 = a.cells.length + i * 2 by simp [At.cells]; omega, List.take_append]
      simp [Nat.add_sub_cancel_left]
      exact (List.take_of_length_le (by omega)).symm

theorem row_cut {w : World} {base g c i : Nat} {L : List At} (h : RowC w base g c L) (hi : i ≤ L.length) (vs : List Value) : OwnA (w.setCells g (i * 2) vs) base (some ⟨g, 0, none⟩) c (L.take i) := by
  have hc := (own_cap h.own).1
  have hl : (L.take i).length = i := by rw [List.length_take]; omega
  rcases h.own.2 with ⟨e0, _⟩ | ⟨g', cap', cur, e0, hb, hg, hn', hm, hs, ht⟩
  · cases e0
  · injection e0 with e1 _ e3
    injection e1 with e1
    injection e1 with e1
    subst e1 e3
    obtain ⟨c2, h2, z2⟩ := setCells_blk g vs (i * 2) w cur hg
    refine own_of_cells h2 hb (by omega) (by rw [hl]; omega) hm (by rw [atL_length]) (fun j u hu => ?_)
    rw [atL_take, List.getElem?_take] at hu
    split at hu
    · rename_i hj
      rw [World.cell?_setCells_out g _ _ _ _ (fun _ _ => Or.inl hj)]
      have := h.own.cells (g := g) rfl j u hu
      rwa [Addr.add_lit, Nat.zero_add] at this
    · cases hu
end Go.Proofs.Ytaieopejabpegaa
