/- Slices of structs that came in as arguments: their elements' cells, one by one. No condition. -/
import Derived.Test.YtnhnllkcnpbgoaaFrame
import Derived.Deep.SlicePairs
namespace Go.Proofs.Ytnhnllkcnpbgoaa
open Go.ChangeShapes Go.WideShapes Go.ChangeAt Go.RowKit Go.Deep
set_option maxRecDepth 100000

theorem wf_in {n : Int} (h : (Lit.int .i64 n).wf = true) : -9223372036854775808 ≤ n ∧ n ≤ 9223372036854775807 := by
  simp [Lit.wf, IntKind.min, IntKind.max, IntKind.signed, IntKind.bits] at h
  omega
theorem open_rows {H : Type} {enc : TypeId × Value → H} {w : World} {fuel : Nat} {cs : List Value} {x : DataW H × List MemPlace} {t e : TypeId} {k : Nat} (ht : Try.prog.underlying t = some (.slice e)) (ce : Try.prog.cellsOf e = k) (hk : 0 < k)
    (h : DataW.trod enc Try.prog w 0 (fun _ => true) true fuel t cs = some x) :
    ∃ a len cap, cs = [.slice a len cap] ∧ len ≤ cap ∧ (a = none → cap = 0) ∧ cap ≤ maxLen ∧ ∀ i, i < len → ∃ b off n y cs', a = some ⟨b, off, none⟩ ∧ b < w.heap.size ∧ cs'.length = k ∧ (∀ j, j < k → w.cell? ⟨b, off + i * k + j, none⟩ = cs'[j]?) ∧ DataW.trod enc Try.prog w 0 (fun _ => true) true n e cs' = some y := by
  rcases open_slice ht h with ⟨rfl, _⟩ | ⟨a, len, cap, m, n, D, Pl, rfl, _, hl, hm, hmm, _, hi⟩
  · exact ⟨none, 0, 0, rfl, Nat.le_refl _, fun _ => rfl, Nat.zero_le _, fun i hi => absurd hi (Nat.not_lt_zero _)⟩
  · refine ⟨some a, len, cap, rfl, hl, (fun h => by cases h), hm, fun i hil => ?_⟩
    have hlm : i < m := by rw [hmm]; simp; omega
    obtain ⟨cs', h1, h2⟩ := hi i hlm
    rw [ce] at h1
    obtain ⟨_, hlen, hcell⟩ := World.cells?_some h1
    obtain ⟨b, off, spot⟩ := a
    have hsp : spot = none := by
      obtain ⟨cs0, g1, _⟩ := hi 0 (by omega)
      rw [ce] at g1
      obtain ⟨_, glen, gcell⟩ := World.cells?_some g1
      have h0 := gcell 0 hk
      rw [show cs0[0]? = some (cs0[0]'(by omega)) from List.getElem?_eq_getElem (by omega)] at h0
      exact by simpa [Addr.add] using World.cell?_spot h0
    subst hsp
    have hc : ∀ j, j < k → w.cell? ⟨b, off + i * k + j, none⟩ = cs'[j]? := fun j hj => by
      have := hcell j hj
      rw [Addr.add_lit, Addr.add_lit] at this
      exact this
    refine ⟨b, off, n, _, cs', rfl, ?_, hlen, hc, h2⟩
    have c0 := hc 0 hk
    by_cases hlt : b < w.heap.size
    · exact hlt
    · unfold World.cell? at c0
      rw [Array.getElem?_eq_none (by show _ ≤ b; omega), List.getElem?_eq_getElem (by omega : 0 < cs'.length)] at c0
      cases c0
/-- From 'each has one' to a list. -/
theorem list_of {α : Type} [Inhabited α] {n : Nat} {p : Nat → α → Prop} (h : ∀ i, i < n → ∃ a, p i a) : ∃ l : List α, l.length = n ∧ ∀ i, i < n → p i (l.getD i default) := by
  induction n with
  | zero => exact ⟨[], rfl, fun i hi => absurd hi (Nat.not_lt_zero _)⟩
  | succ n ih =>
    obtain ⟨l, hl, hp⟩ := ih fun i hi => h i (by omega)
    obtain ⟨a, ha⟩ := h n (by omega)
    refine ⟨l ++ [a], by simp [hl], fun i hi => ?_⟩
    by_cases e : i < n
    · rw [List.getD_eq_getElem?_getD, List.getElem?_append_left (by omega), ← List.getD_eq_getElem?_getD]
      exact hp i e
    · obtain rfl : i = n := by omega
      rw [List.getD_eq_getElem?_getD, List.getElem?_append_right (by omega), hl]
      simpa using ha
end Go.Proofs.Ytnhnllkcnpbgoaa
