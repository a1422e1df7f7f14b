/- The library's sort, at timers of the program's own. Its condition: fewer than 2^20 timers. -/
import Derived.Test.YtogghcbijdljkaaWcmp
namespace Go.Proofs.Ytogghcbijdljkaa
open Go.RowKit Go.Shelf Go.Lib Go.Sort
set_option maxRecDepth 100000

theorem cmpI_lt (x y : Int) : cmpI x y < 0 ↔ x < y := by unfold cmpI; split <;> (try split) <;> omega
theorem cmpI_zero (x y : Int) : cmpI x y = 0 ↔ x = y := by unfold cmpI; split <;> (try split) <;> omega
def ltT (a b : Tm) : Prop := a.due < b.due ∨ (a.due = b.due ∧ a.key < b.key)
instance (a b : Tm) : Decidable (ltT a b) := by unfold ltT; infer_instance
theorem lt_cmp (a b : Tm) : ltOf cmpT a b = decide (ltT a b) := by
  unfold ltOf cmpT ltT
  have h1 := cmpI_lt a.due b.due
  have h2 := cmpI_zero a.due b.due
  have h3 := cmpI_lt a.key b.key
  by_cases h : cmpI a.due b.due = 0
  · have e := h2.1 h
    rw [if_neg (by simpa using h)]
    exact decide_eq_decide.2 (by omega)
  · rw [if_pos h]
    have e : a.due ≠ b.due := fun e => h (h2.2 e)
    exact decide_eq_decide.2 (by omega)
theorem lt_true (a b : Tm) : ltOf cmpT a b = true ↔ ltT a b := by rw [lt_cmp]; exact decide_eq_true_iff
theorem lt_false (a b : Tm) : ltOf cmpT a b = false ↔ ¬ ltT a b := by rw [lt_cmp]; exact decide_eq_false_iff_not
theorem swo_cmp : SWO (ltOf cmpT) where
  irrefl x := by rw [lt_false]; unfold ltT; omega
  trans x y z h1 h2 := by rw [lt_true] at *; unfold ltT at *; omega
  ntrans x y z h1 h2 := by rw [lt_false] at *; unfold ltT at *; omega
theorem tot_cmp (x y : Tm) (h1 : ltOf cmpT x y = false) (h2 : ltOf cmpT y x = false) : x = y := by
  rw [lt_false] at h1 h2
  unfold ltT at h1 h2
  exact Tm.eq (by omega) (by omega)
/-- Timers in order. -/
def sortT (l : List Tm) : List Tm := l.mergeSort fun x y => !(ltOf cmpT) y x
theorem sortT_perm (l : List Tm) : (sortT l).Perm l := List.mergeSort_perm l _
theorem sortT_length (l : List Tm) : (sortT l).length = l.length := (sortT_perm l).length_eq
theorem flat_tm (l : List Tm) : (flatK Tm.cells 2 l.toArray).toList = tmL l := by
  apply List.ext_getElem?
  intro j
  by_cases h : j < l.length * 2
  · have hk : j / 2 < l.length := by omega
    have e := tmL_at l (j / 2) hk (j % 2) (by omega)
    rw [show j / 2 * 2 + j % 2 = j by omega] at e
    rw [e]
    have h2 : j < (flatK Tm.cells 2 l.toArray).size := by rw [size_flatK]; simpa using h
    rw [Array.getElem?_toList, Array.getElem?_eq_getElem h2, ← getElem!_pos _ j h2, get_flatK _ _ _ _ (by simpa using h)]
    have e2 : l.toArray[j / 2]! = l.getD (j / 2) tm0 := by
      rw [getElem!_pos _ _ (by simpa using hk)]
      simp [List.getD_eq_getElem?_getD, List.getElem?_eq_getElem hk]
    rw [e2]
    have h3 : j % 2 = 0 ∨ j % 2 = 1 := by omega
    rcases h3 with h3 | h3 <;> rw [h3] <;> rfl
  · rw [List.getElem?_eq_none (by rw [Array.length_toList, size_flatK]; simpa using h), List.getElem?_eq_none (by rw [tmL_length]; omega)]
theorem holds_own {w : World} {base g c : Nat} {l : List Tm} (h : OwnT w base (some ⟨g, 0, none⟩) c l) : HoldsK Tm.cells 2 w g 0 l.toArray := fun j hj => by
  rw [size_flatK] at hj
  have hj' : j < l.length * 2 := by simpa using hj
  have h2 : j < (flatK Tm.cells 2 l.toArray).size := by rw [size_flatK]; exact hj
  have e : (tmL l)[j]? = some (flatK Tm.cells 2 l.toArray)[j]! := by
    rw [← flat_tm, Array.getElem?_toList, Array.getElem?_eq_getElem h2, getElem!_pos _ j h2]
  rw [Nat.zero_add]
  exact ⟨(h.cellAt (g := g) j hj').trans e, h.frozenAt j⟩
theorem own_sorted {w : World} {base g c n : Nat} {l l' : List Tm} (h : OwnT w base (some ⟨g, 0, none⟩) c l) (hl : l'.length = l.length) (os : Array Obj) :
    OwnT (sortWorldK Tm.cells 2 w g 0 n l'.toArray os) base (some ⟨g, 0, none⟩) c l' ∧ Touch (· = g) w (sortWorldK Tm.cells 2 w g 0 n l'.toArray os) := by
  rcases h.2 with ⟨e0, _⟩ | ⟨g', cap', cur, e0, hb, hg, hn, hm, hs, ht⟩
  · cases e0
  · injection e0 with e1 _ e3
    injection e1 with e1
    injection e1 with e1
    subst e1 e3
    have hgl : g < w.heap.size := (Array.getElem?_eq_some_iff.1 hg).1
    have hcell : (sortWorldK Tm.cells 2 w g 0 n l'.toArray os).heap[g]? = some (.cells (putCells id 0 (flatK Tm.cells 2 l'.toArray) cur) 46 (0, 0)) := by
      unfold sortWorldK
      rw [heap_grow_old _ _ (by simpa [putRowK, putRow, mapBlock, Sort.ahead] using hgl)]
      simp [putRowK, putRow, mapBlock, Sort.ahead, Array.getElem?_modify, hg, onCells]
    refine ⟨⟨by rw [tmL_length], .inr ⟨g, c, _, by rw [hl], hb, hcell, by rw [hl]; exact hn, hm, by simpa [putCells] using hs, ?_⟩⟩, ?_⟩
    · rw [← flat_tm]
      apply List.ext_getElem?
      intro j
      rw [List.getElem?_take, Array.getElem?_toList]
      by_cases hj : j < l'.length * 2
      · have hjc : j < cur.size := by rw [hs]; have : l'.length * 2 ≤ c * 2 := Nat.mul_le_mul_right _ (by rw [hl]; exact hn); omega
        have h2 : j < (flatK Tm.cells 2 l'.toArray).size := by rw [size_flatK]; simpa using hj
        simp only [if_pos hj, putCells, Array.getElem?_mapIdx, Array.getElem?_eq_getElem hjc, Option.map_some]
        rw [if_pos (by constructor <;> omega), Array.getElem?_toList, Array.getElem?_eq_getElem h2]
        exact congrArg some (getElem!_pos _ j h2)
      · rw [if_neg hj, Array.getElem?_toList, Array.getElem?_eq_none (by rw [size_flatK]; simpa using hj)]
    · refine ⟨rfl, rfl, rfl, ?_, fun k hk hp => ?_⟩
      · unfold sortWorldK
        simp [putRowK, putRow, mapBlock, Sort.ahead]
      · unfold sortWorldK
        rw [heap_grow_old _ _ (by simpa [putRowK, putRow, mapBlock, Sort.ahead] using hk)]
        simp [putRowK, putRow, mapBlock, Sort.ahead, Array.getElem?_modify, show g ≠ k from fun e => hp e.symm]
/-- The library's sort, at timers of the program's own. -/
theorem sort_any (A : Option Addr) (c : Nat) (l : List Tm) (base : Nat) (w : World) (h : OwnT w base A c l) (hn : l.length ≤ 1048576) :
    Calls Try.prog 43 #[.slice A l.length c, .func (.func 44) #[] #[]] w fun e w' =>
      e = .returned (.tuple #[]) ∧ OwnT w' base A c (sortT l) ∧ Touch (fun k => (Value.slice A l.length c).ownBlock = some k) w w' := by
  by_cases h0 : l = []
  · subst h0
    have hcon := AnyF.slices_SortFunc_none (P := Try.prog) { laySort with } A c (.func (.func 44) #[] #[]) w
    refine (show Calls Try.prog 43 #[.slice A 0 c, _] w _ from hcon).mono fun e w' hh => ?_
    rw [hh.2]
    exact ⟨hh.1, by simpa [sortT] using h, Touch.refl _ _⟩
  · obtain ⟨g, cap, e, _, hlt⟩ := h.form (List.length_pos_iff.2 h0)
    injection e with e1 _ e3
    subst e1 e3
    have eg : ∀ args w, (callFunc 44 args).run Try.prog w = .ok (.enter 44 args) w := enters_of Try.func44 (by kernel_rfl) rfl
    have hcon := AnyQ.slices_SortFunc_total (P := Try.prog) laySort 2 Try.isAgg46 Try.sizeOf46 Tm.cells (fun _ => rfl) (fun x v hv => by simp [Tm.cells] at hv; rcases hv with rfl | rfl <;> rfl) cmpT swo_cmp 44 #[] g 0 c l.toArray w eg (fun _ _ _ _ x y => compare_any x y _) (holds_own h) hlt (by simp; omega) tot_cmp
    have hs : l.toArray.size = l.length := by simp
    rw [hs] at hcon
    refine (show Calls Try.prog 43 #[.slice (some ⟨g, 0, none⟩) l.length c, _] w _ from hcon).mono fun e w' hh => ?_
    obtain ⟨he, n, os, rfl⟩ := hh
    have := own_sorted (n := n) (l' := sortT l) h (sortT_length l) os
    refine ⟨he, this.1, this.2.mono fun k _ hk => ?_⟩
    rw [hk]; rfl
end Go.Proofs.Ytogghcbijdljkaa
