/- Rows of attributes of the program's own; the library's sort of them; clone; append. Its condition: at most 2^20 attributes. -/
import Derived.Test.YtaieopejabpegaaSnCmp
import Derived.Test.YtaieopejabpegaaSnLay
import Derived.Test.YtaieopejabpegaaSnMem
namespace Go.Proofs.Ytaieopejabpegaa
open Go.RowKit Go.Shelf Go.Lib Go.Sort
set_option maxRecDepth 100000

def At.cells (v : At) : List Value := [.int .i64 v.t, .int .i64 v.v]
def At.val (v : At) : Value := .agg #[.int .i64 v.t, .int .i64 v.v]
def atL : List At → List Value
  | [] => []
  | a :: l => a.cells ++ atL l
theorem atL_append (l m : List At) : atL (l ++ m) = atL l ++ atL m := by
  induction l with
  | nil => rfl
  | cons a l ih => simp [atL, ih]
theorem atL_length (l : List At) : (atL l).length = l.length * 2 := by
  induction l with
  | nil => rfl
  | cons a l ih => simp [atL, ih, At.cells]; omega
theorem atL_at (l : List At) (k : Nat) (h : k < l.length) (j : Nat) (hj : j < 2) : (atL l)[k * 2 + j]? = (l.getD k at0).cells[j]? := by
  induction l generalizing k with
  | nil => simp at h
  | cons a l ih =>
    cases k with
    | zero =>
      simp only [atL]
      rw [List.getElem?_append_left (by simp [At.cells]; omega)]
      simp
    | succ k =>
      simp only [atL]
      rw [List.getElem?_append_right (by simp [At.cells]; omega)]
      have e : (k + 1) * 2 + j - a.cells.length = k * 2 + j := by simp [At.cells]; omega
      rw [e, ih k (by simpa using h)]
      simp
theorem atL_one (l : List At) : ∀ u ∈ atL l, u.oneCell' = true := by
  induction l with
  | nil => simp [atL]
  | cons a l ih =>
    intro u hu
    simp only [atL, List.mem_append, At.cells] at hu
    rcases hu with hu | hu
    · simp only [List.mem_cons, List.not_mem_nil, or_false] at hu
      rcases hu with rfl | rfl <;> rfl
    · exact ih u hu
theorem AtsAt.flat {w : World} {B : Nat} {A : Option Addr} {l : List At} (h : AtsAt w B A l) (hp : 0 < l.length) : ∃ b off, A = some ⟨b, off, none⟩ ∧ ∀ j u, (atL l)[j]? = some u → w.cell? ⟨b, off + j, none⟩ = some u := by
  obtain ⟨b, off, e, _, _, _⟩ := h 0 hp
  refine ⟨b, off, e, fun j u hu => ?_⟩
  have hj : j < l.length * 2 := by have := (List.getElem?_eq_some_iff.1 hu).1; rwa [atL_length] at this
  obtain ⟨b', off', e', _, q0, q1⟩ := h (j / 2) (by omega)
  rw [e] at e'
  injection e' with e'
  injection e' with e1 e2
  subst e1 e2
  have hjj : j / 2 * 2 + j % 2 = j := by omega
  have hu' := atL_at l (j / 2) (by omega) (j % 2) (by omega)
  rw [hjj, hu] at hu'
  have hs : off + j = off + j / 2 * 2 + j % 2 := by omega
  rw [hs]
  rcases (show j % 2 = 0 ∨ j % 2 = 1 from by omega) with h | h <;> rw [h] at hu' ⊢ <;> rw [hu']
  · exact q0
  · exact q1
/-- Rows of the program's own. -/
def OwnA (w : World) (base : Nat) (A : Option Addr) (c : Nat) (l : List At) : Prop := w.ownsRow base 24 2 (.slice A l.length c) l.length (atL l)
theorem OwnA.at_ {w : World} {base c : Nat} {A : Option Addr} {l : List At} (h : OwnA w base A c l) : AtsAt w w.heap.size A l := fun k hk => by
  obtain ⟨b, rfl, hl, hc⟩ := own_at h (by omega)
  have hcell : ∀ j, j < 2 → ∀ u, (l.getD k at0).cells[j]? = some u → w.cell? ⟨b, 0 + k * 2 + j, none⟩ = some u := fun j hj u hu => by
    rw [Nat.zero_add]
    exact hc _ _ ((atL_at l k hk j hj).trans hu)
  exact ⟨b, 0, rfl, hl, hcell 0 (by omega) _ rfl, hcell 1 (by omega) _ rfl⟩
theorem attr_info : (Try.prog.info? 24).map (fun i => (i.zero, i.size, i.bytes)) = some (some (.agg #[.int .i64 0, .int .i64 0]), 2, 16) := by kernel_rfl
theorem append_a (w : World) (base : Nat) (A0 : Option Addr) (c0 n0 : Nat) (l : List At) (hl0 : l.length = n0) (hown : OwnA w base A0 c0 l) (A : Option Addr) (c n1 B : Nat) (m : List At) (hl1 : m.length = n1) (hnone : A = none → c = 0) (hsrc : AtsAt w B A m) (hn : (l.length + m.length) * 16 ≤ 140737488355328) (hbase : base ≤ w.heap.size) :
    ∃ a' c' w', (Builtin.append_ #[33, 33] 33 #[.slice A0 n0 c0, .slice A n1 c]).run Try.prog w = .ok (.slice a' (n0 + n1) c') w' ∧ OwnA w' base a' c' (l ++ m) ∧ w.grownBy w' (Value.slice A0 n0 c0).ownBlock := by
  subst hl0 hl1
  obtain ⟨i0, hi0, hz0, hz1, hz2⟩ := info_parts attr_info
  obtain ⟨a', c', w', hr, ho, hgr, _, _⟩ := append_src w base 33 33 24 i0 _ 2 16 Try.underlying33 hi0 hz0 hz1 hz2 rfl (by decide) _ l.length _ hown A m.length c (atL m) (atL_length m) hnone hsrc.flat (atL_one m) (by unfold maxLen; omega) (by omega) hbase
  refine ⟨a', c', w', hr, ?_, hgr⟩
  unfold OwnA
  rw [atL_append, List.length_append]
  exact ho
theorem alloc3 (w : World) (o1 o2 o3 : Obj) : ∃ q os, (((w.alloc o1).alloc o2).alloc o3).drew = grow (w.drewN q) os := ⟨1, _, by rw [alloc_eq_grow, alloc_eq_grow, alloc_eq_grow, grow_grow, grow_grow]; rfl⟩
theorem compare_grow (a b : At) (w : World) : Calls Try.prog 21 #[a.val, b.val] w fun e w' => e = .returned (.int .i64 (cmpA a b)) ∧ ∃ q os', w' = grow (w.drewN q) os' :=
  (acompare_exact a b w).mono fun _ _ ⟨he, o1, o2, o3, hw⟩ => ⟨he, by rw [hw]; exact alloc3 w o1 o2 o3⟩
theorem lt_cmp (a b : At) : ltOf cmpA a b = decide (ltA a b) := by
  unfold ltOf
  exact decide_eq_decide.2 (cmpA_lt a b)
theorem lt_true (a b : At) : ltOf cmpA a b = true ↔ ltA a b := by rw [lt_cmp]; exact decide_eq_true_iff
theorem lt_false (a b : At) : ltOf cmpA a b = false ↔ ¬ ltA a b := by rw [lt_cmp]; exact decide_eq_false_iff_not
theorem swo_cmp : SWO (ltOf cmpA) where
  irrefl x := by rw [lt_false]; unfold ltA; omega
  trans x y z h1 h2 := by rw [lt_true] at *; unfold ltA at *; omega
  ntrans x y z h1 h2 := by rw [lt_false] at *; unfold ltA at *; omega
theorem tot_cmp (x y : At) (h1 : ltOf cmpA x y = false) (h2 : ltOf cmpA y x = false) : x = y := by
  rw [lt_false] at h1 h2
  exact ltA_total x y h1 h2
/-- Vectors in order. -/
def sortA (l : List At) : List At := l.mergeSort fun x y => !(ltOf cmpA) y x
theorem sortA_perm (l : List At) : (sortA l).Perm l := List.mergeSort_perm l _
theorem sortA_length (l : List At) : (sortA l).length = l.length := (sortA_perm l).length_eq
theorem flat_at (l : List At) : (flatK At.cells 2 l.toArray).toList = atL l := by
  apply List.ext_getElem?
  intro j
  by_cases h : j < l.length * 2
  · have hk : j / 2 < l.length := by omega
    have e := atL_at l (j / 2) hk (j % 2) (by omega)
    rw [show j / 2 * 2 + j % 2 = j by omega] at e
    rw [e]
    have h2 : j < (flatK At.cells 2 l.toArray).size := by rw [size_flatK]; simpa using h
    rw [Array.getElem?_toList, Array.getElem?_eq_getElem h2, ← getElem!_pos _ j h2, get_flatK _ _ _ _ (by simpa using h)]
    have e2 : l.toArray[j / 2]! = l.getD (j / 2) at0 := by
      rw [getElem!_pos _ _ (by simpa using hk)]
      simp [List.getD_eq_getElem?_getD, List.getElem?_eq_getElem hk]
    rw [e2]
    have h3 : j % 2 = 0 ∨ j % 2 = 1 := by omega
    rcases h3 with h3 | h3 <;> rw [h3] <;> rfl
  · rw [List.getElem?_eq_none (by rw [Array.length_toList, size_flatK]; simpa using h), List.getElem?_eq_none (by rw [atL_length]; omega)]
theorem holds_own {w : World} {base g c : Nat} {l : List At} (h : OwnA w base (some ⟨g, 0, none⟩) c l) : HoldsK At.cells 2 w g 0 l.toArray := fun j hj => by
  rw [size_flatK] at hj
  have hj' : j < l.length * 2 := by simpa using hj
  have h2 : j < (flatK At.cells 2 l.toArray).size := by rw [size_flatK]; exact hj
  have e : (atL l)[j]? = some (flatK At.cells 2 l.toArray)[j]! := by
    rw [← flat_at, Array.getElem?_toList, Array.getElem?_eq_getElem h2, getElem!_pos _ j h2]
  rw [Nat.zero_add]
  exact ⟨(h.cellAt (g := g) j hj').trans e, h.frozenAt j⟩
theorem own_sorted {w : World} {base g c n : Nat} {l l' : List At} (h : OwnA w base (some ⟨g, 0, none⟩) c l) (hl : l'.length = l.length) (os : Array Obj) :
    OwnA (sortWorldK At.cells 2 w g 0 n l'.toArray os) base (some ⟨g, 0, none⟩) c l' ∧ Touch (· = g) w (sortWorldK At.cells 2 w g 0 n l'.toArray os) := by
  rcases h.2 with ⟨e0, _⟩ | ⟨g', cap', cur, e0, hb, hg, hn, hm, hs, ht⟩
  · cases e0
  · injection e0 with e1 _ e3
    injection e1 with e1
    injection e1 with e1
    subst e1 e3
    have hgl : g < w.heap.size := (Array.getElem?_eq_some_iff.1 hg).1
    have hcell : (sortWorldK At.cells 2 w g 0 n l'.toArray os).heap[g]? = some (.cells (putCells id 0 (flatK At.cells 2 l'.toArray) cur) 24 (0, 0)) := by
      unfold sortWorldK
      rw [heap_grow_old _ _ (by simpa [putRowK, putRow, mapBlock, Sort.ahead] using hgl)]
      simp [putRowK, putRow, mapBlock, Sort.ahead, Array.getElem?_modify, hg, onCells]
    refine ⟨⟨by rw [atL_length], .inr ⟨g, c, _, by rw [hl], hb, hcell, by rw [hl]; exact hn, hm, by simpa [putCells] using hs, ?_⟩⟩, ?_⟩
    · rw [← flat_at]
      apply List.ext_getElem?
      intro j
      rw [List.getElem?_take, Array.getElem?_toList]
      by_cases hj : j < l'.length * 2
      · have hjc : j < cur.size := by rw [hs]; have : l'.length * 2 ≤ c * 2 := Nat.mul_le_mul_right _ (by rw [hl]; exact hn); omega
        have h2 : j < (flatK At.cells 2 l'.toArray).size := by rw [size_flatK]; simpa using hj
        simp only [if_pos hj, putCells, Array.getElem?_mapIdx, Array.getElem?_eq_getElem hjc, Option.map_some]
        rw [if_pos (by constructor <;> omega), Array.getElem?_toList, Array.getElem?_eq_getElem h2]
        exact congrArg some (getElem!_pos _ j h2)
      · rw [if_neg hj, Array.getElem?_toList, Array.getElem?_eq_none (by rw [size_flatK]; simpa using hj)]
    · refine ⟨rfl, rfl, rfl, ?_, fun k hk hp => ?_⟩
      · unfold sortWorldK
        simp [putRowK, putRow, mapBlock, Sort.ahead]
      · unfold sortWorldK
        rw [heap_grow_old _ _ (by simpa [putRowK, putRow, mapBlock, Sort.ahead] using hk)]
        simp [putRowK, putRow, mapBlock, Sort.ahead, Array.getElem?_modify, show g ≠ k from fun e => hp e.symm]
/-- The library's sort, at vectors of the program's own. -/
theorem sort_any (A : Option Addr) (c : Nat) (l : List At) (base : Nat) (w : World) (h : OwnA w base A c l) (hn : l.length ≤ 1048576) :
    Calls Try.prog 20 #[.slice A l.length c, .func (.func 21) #[] #[]] w fun e w' =>
      e = .returned (.tuple #[]) ∧ OwnA w' base A c (sortA l) ∧ Touch (fun k => (Value.slice A l.length c).ownBlock = some k) w w' := by
  by_cases h0 : l = []
  · subst h0
    have hcon := AnyF.slices_SortFunc_none (P := Try.prog) { laySort with } A c (.func (.func 21) #[] #[]) w
    refine (show Calls Try.prog 20 #[.slice A 0 c, _] w _ from hcon).mono fun e w' hh => ?_
    rw [hh.2]
    exact ⟨hh.1, by simpa [sortA] using h, Touch.refl _ _⟩
  · obtain ⟨g, cap, e, _, hlt⟩ := h.form (List.length_pos_iff.2 h0)
    injection e with e1 _ e3
    subst e1 e3
    have eg : ∀ args w, (callFunc 21 args).run Try.prog w = .ok (.enter 21 args) w := enters_of Try.func21 (by kernel_rfl) rfl
    have hcon := AnyQ.slices_SortFunc_total (P := Try.prog) laySort 2 Try.isAgg24 Try.sizeOf24 At.cells (fun _ => rfl) (fun x v hv => by simp [At.cells] at hv; rcases hv with rfl | rfl <;> rfl) cmpA swo_cmp 21 #[] g 0 c l.toArray w eg (fun _ _ _ _ x y => compare_grow x y _) (holds_own h) hlt (by simp; omega) tot_cmp
    have hs : l.toArray.size = l.length := by simp
    rw [hs] at hcon
    refine (show Calls Try.prog 20 #[.slice (some ⟨g, 0, none⟩) l.length c, _] w _ from hcon).mono fun e w' hh => ?_
    obtain ⟨he, n, os, rfl⟩ := hh
    have := own_sorted (n := n) (l' := sortA l) h (sortA_length l) os
    refine ⟨he, this.1, this.2.mono fun k _ hk => ?_⟩
    rw [hk]; rfl
end Go.Proofs.Ytaieopejabpegaa
