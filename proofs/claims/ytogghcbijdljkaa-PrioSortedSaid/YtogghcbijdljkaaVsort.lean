/- Rows of vectors; the library's sort and clone of them; Sorted. Its condition: fewer than 2^20 vectors. -/
import Derived.Test.YtogghcbijdljkaaVbet
import Derived.Test.YtogghcbijdljkaaVlay
namespace Go.Proofs.Ytogghcbijdljkaa
open Go.RowKit Go.Shelf Go.Lib Go.Sort
set_option maxRecDepth 100000

instance : Inhabited Vec := ⟨⟨0, 0, 0, 0⟩⟩
def vc0 : Vec := ⟨0, 0, 0, 0⟩
def Vec.cells (v : Vec) : List Value := [.int .i64 v.root, .int .i64 v.cost, .int .i64 v.bridge, .int .i64 v.port]
def vcL : List Vec → List Value
  | [] => []
  | a :: l => a.cells ++ vcL l
theorem vcL_append (l m : List Vec) : vcL (l ++ m) = vcL l ++ vcL m := by
  induction l with
  | nil => rfl
  | cons a l ih => simp [vcL, ih]
theorem vcL_length (l : List Vec) : (vcL l).length = l.length * 4 := by
  induction l with
  | nil => rfl
  | cons a l ih => simp [vcL, ih, Vec.cells]; omega
theorem vcL_at (l : List Vec) (k : Nat) (h : k < l.length) (j : Nat) (hj : j < 4) : (vcL l)[k * 4 + j]? = (l.getD k vc0).cells[j]? := by
  induction l generalizing k with
  | nil => simp at h
  | cons a l ih =>
    cases k with
    | zero =>
      simp only [vcL]
      rw [List.getElem?_append_left (by simp [Vec.cells]; omega)]
      simp
    | succ k =>
      simp only [vcL]
      rw [List.getElem?_append_right (by simp [Vec.cells]; omega)]
      have e : (k + 1) * 4 + j - a.cells.length = k * 4 + j := by simp [Vec.cells]; omega
      rw [e, ih k (by simpa using h)]
      simp
theorem vcL_one (l : List Vec) : ∀ u ∈ vcL l, u.oneCell' = true := by
  induction l with
  | nil => simp [vcL]
  | cons a l ih =>
    intro u hu
    simp only [vcL, List.mem_append, Vec.cells] at hu
    rcases hu with hu | hu
    · simp only [List.mem_cons, List.not_mem_nil, or_false] at hu
      rcases hu with rfl | rfl | rfl | rfl <;> rfl
    · exact ih u hu
structure VcCells (w : World) (b i : Nat) (v : Vec) : Prop where
  c0 : w.cell? ⟨b, i, none⟩ = some (.int .i64 v.root)
  c1 : w.cell? ⟨b, i + 1, none⟩ = some (.int .i64 v.cost)
  c2 : w.cell? ⟨b, i + 2, none⟩ = some (.int .i64 v.bridge)
  c3 : w.cell? ⟨b, i + 3, none⟩ = some (.int .i64 v.port)
theorem VcCells.below {w w' : World} {B b i : Nat} {v : Vec} (hc : VcCells w b i v) (hb : Below B w w') (hl : b < B) : VcCells w' b i v :=
  ⟨(hb.cell (p := ⟨b, i, none⟩) hl).trans hc.c0, (hb.cell (p := ⟨b, i + 1, none⟩) hl).trans hc.c1, (hb.cell (p := ⟨b, i + 2, none⟩) hl).trans hc.c2, (hb.cell (p := ⟨b, i + 3, none⟩) hl).trans hc.c3⟩
/-- Vectors as they lie. -/
def VecAt (w : World) (B : Nat) (A : Option Addr) (l : List Vec) : Prop := ∀ k, k < l.length → ∃ b off, A = some ⟨b, off, none⟩ ∧ b < B ∧ VcCells w b (off + k * 4) (l.getD k vc0)
theorem VecAt.below {w w' : World} {B : Nat} {A : Option Addr} {l : List Vec} (h : VecAt w B A l) (hb : Below B w w') : VecAt w' B A l := fun k hk => by
  obtain ⟨b, off, e, hl, hc⟩ := h k hk
  exact ⟨b, off, e, hl, hc.below hb hl⟩
theorem VecAt.more {w : World} {B B' : Nat} {A : Option Addr} {l : List Vec} (h : VecAt w B A l) (hB : B ≤ B') : VecAt w B' A l := fun k hk => by
  obtain ⟨b, off, e, hl, hc⟩ := h k hk
  exact ⟨b, off, e, by omega, hc⟩
theorem VecAt.go {w w' : World} {A : Option Addr} {l : List Vec} (h : VecAt w w.heap.size A l) (hb : Below w.heap.size w w') : VecAt w' w'.heap.size A l := (h.below hb).more hb.size
theorem VecAt.flat {w : World} {B b off : Nat} {l : List Vec} (h : VecAt w B (some ⟨b, off, none⟩) l) (j : Nat) (u : Value) (hu : (vcL l)[j]? = some u) : w.cell? ⟨b, off + j, none⟩ = some u := by
  have hj : j < l.length * 4 := by have := (List.getElem?_eq_some_iff.1 hu).1; rwa [vcL_length] at this
  obtain ⟨b', off', e, _, hc⟩ := h (j / 4) (by omega)
  injection e with e
  injection e with e1 e2
  subst e1 e2
  have hjj : j / 4 * 4 + j % 4 = j := by omega
  have hu' := vcL_at l (j / 4) (by omega) (j % 4) (by omega)
  rw [hjj, hu] at hu'
  obtain ⟨q0, q1, q2, q3⟩ := hc
  have hs : off + j = off + j / 4 * 4 + j % 4 := by omega
  rw [hs]
  rcases (show j % 4 = 0 ∨ j % 4 = 1 ∨ j % 4 = 2 ∨ j % 4 = 3 from by omega) with h | h | h | h <;> rw [h] at hu' ⊢ <;> rw [hu']
  · exact q0
  · exact q1
  · exact q2
  · exact q3
/-- Rows of the program's own. -/
def OwnV (w : World) (base : Nat) (A : Option Addr) (c : Nat) (l : List Vec) : Prop := w.ownsRow base 49 4 (.slice A l.length c) l.length (vcL l)
theorem OwnV.at_ {w : World} {base c : Nat} {A : Option Addr} {l : List Vec} (h : OwnV w base A c l) : VecAt w w.heap.size A l := fun k hk => by
  obtain ⟨b, rfl, hl, hc⟩ := own_at h (by omega)
  have hcell : ∀ j, j < 4 → ∀ u, (l.getD k vc0).cells[j]? = some u → w.cell? ⟨b, 0 + k * 4 + j, none⟩ = some u := fun j hj u hu => by
    rw [Nat.zero_add]
    exact hc _ _ ((vcL_at l k hk j hj).trans hu)
  exact ⟨b, 0, rfl, hl, hcell 0 (by omega) _ rfl, hcell 1 (by omega) _ rfl, hcell 2 (by omega) _ rfl, hcell 3 (by omega) _ rfl⟩
theorem alloc3 (w : World) (o1 o2 o3 : Obj) : ∃ q os, (((w.alloc o1).alloc o2).alloc o3).drew = grow (w.drewN q) os := ⟨1, _, by rw [alloc_eq_grow, alloc_eq_grow, alloc_eq_grow, grow_grow, grow_grow]; rfl⟩
theorem compare_grow (a b : Vec) (w : World) : Calls Try.prog 26 #[a.v, b.v] w fun e w' => e = .returned (.int .i64 (cmpV a b)) ∧ ∃ q os', w' = grow (w.drewN q) os' :=
  (compare_exact a b w).mono fun _ _ ⟨he, o1, o2, o3, hw⟩ => ⟨he, by rw [hw]; exact alloc3 w o1 o2 o3⟩
theorem lt_cmp (a b : Vec) : ltOf cmpV a b = decide (ltV a b) := by
  unfold ltOf
  exact decide_eq_decide.2 (cmpV_lt a b)
theorem lt_true (a b : Vec) : ltOf cmpV a b = true ↔ ltV a b := by rw [lt_cmp]; exact decide_eq_true_iff
theorem lt_false (a b : Vec) : ltOf cmpV a b = false ↔ ¬ ltV a b := by rw [lt_cmp]; exact decide_eq_false_iff_not
theorem swo_cmp : SWO (ltOf cmpV) where
  irrefl x := by rw [lt_false]; unfold ltV; omega
  trans x y z h1 h2 := by rw [lt_true] at *; unfold ltV at *; omega
  ntrans x y z h1 h2 := by rw [lt_false] at *; unfold ltV at *; omega
theorem tot_cmp (x y : Vec) (h1 : ltOf cmpV x y = false) (h2 : ltOf cmpV y x = false) : x = y := by
  rw [lt_false] at h1 h2
  exact ltV_total x y h1 h2
/-- Vectors in order. -/
def sortV (l : List Vec) : List Vec := l.mergeSort fun x y => !(ltOf cmpV) y x
theorem sortV_perm (l : List Vec) : (sortV l).Perm l := List.mergeSort_perm l _
theorem sortV_length (l : List Vec) : (sortV l).length = l.length := (sortV_perm l).length_eq
theorem flat_vec (l : List Vec) : (flatK Vec.cells 4 l.toArray).toList = vcL l := by
  apply List.ext_getElem?
  intro j
  by_cases h : j < l.length * 4
  · have hk : j / 4 < l.length := by omega
    have e := vcL_at l (j / 4) hk (j % 4) (by omega)
    rw [show j / 4 * 4 + j % 4 = j by omega] at e
    rw [e]
    have h2 : j < (flatK Vec.cells 4 l.toArray).size := by rw [size_flatK]; simpa using h
    rw [Array.getElem?_toList, Array.getElem?_eq_getElem h2, ← getElem!_pos _ j h2, get_flatK _ _ _ _ (by simpa using h)]
    have e2 : l.toArray[j / 4]! = l.getD (j / 4) vc0 := by
      rw [getElem!_pos _ _ (by simpa using hk)]
      simp [List.getD_eq_getElem?_getD, List.getElem?_eq_getElem hk]
    rw [e2]
    have h3 : j % 4 = 0 ∨ j % 4 = 1 ∨ j % 4 = 2 ∨ j % 4 = 3 := by omega
    rcases h3 with h3 | h3 | h3 | h3 <;> rw [h3] <;> rfl
  · rw [List.getElem?_eq_none (by rw [Array.length_toList, size_flatK]; simpa using h), List.getElem?_eq_none (by rw [vcL_length]; omega)]
theorem holds_own {w : World} {base g c : Nat} {l : List Vec} (h : OwnV w base (some ⟨g, 0, none⟩) c l) : HoldsK Vec.cells 4 w g 0 l.toArray := fun j hj => by
  rw [size_flatK] at hj
  have hj' : j < l.length * 4 := by simpa using hj
  have h2 : j < (flatK Vec.cells 4 l.toArray).size := by rw [size_flatK]; exact hj
  have e : (vcL l)[j]? = some (flatK Vec.cells 4 l.toArray)[j]! := by
    rw [← flat_vec, Array.getElem?_toList, Array.getElem?_eq_getElem h2, getElem!_pos _ j h2]
  rw [Nat.zero_add]
  exact ⟨(h.cellAt (g := g) j hj').trans e, h.frozenAt j⟩
theorem own_sorted {w : World} {base g c n : Nat} {l l' : List Vec} (h : OwnV w base (some ⟨g, 0, none⟩) c l) (hl : l'.length = l.length) (os : Array Obj) :
    OwnV (sortWorldK Vec.cells 4 w g 0 n l'.toArray os) base (some ⟨g, 0, none⟩) c l' ∧ Touch (· = g) w (sortWorldK Vec.cells 4 w g 0 n l'.toArray os) := by
  rcases h.2 with ⟨e0, _⟩ | ⟨g', cap', cur, e0, hb, hg, hn, hm, hs, ht⟩
  · cases e0
  · injection e0 with e1 _ e3
    injection e1 with e1
    injection e1 with e1
    subst e1 e3
    have hgl : g < w.heap.size := (Array.getElem?_eq_some_iff.1 hg).1
    have hcell : (sortWorldK Vec.cells 4 w g 0 n l'.toArray os).heap[g]? = some (.cells (putCells id 0 (flatK Vec.cells 4 l'.toArray) cur) 49 (0, 0)) := by
      unfold sortWorldK
      rw [heap_grow_old _ _ (by simpa [putRowK, putRow, mapBlock, Sort.ahead] using hgl)]
      simp [putRowK, putRow, mapBlock, Sort.ahead, Array.getElem?_modify, hg, onCells]
    refine ⟨⟨by rw [vcL_length], .inr ⟨g, c, _, by rw [hl], hb, hcell, by rw [hl]; exact hn, hm, by simpa [putCells] using hs, ?_⟩⟩, ?_⟩
    · rw [← flat_vec]
      apply List.ext_getElem?
      intro j
      rw [List.getElem?_take, Array.getElem?_toList]
      by_cases hj : j < l'.length * 4
      · have hjc : j < cur.size := by rw [hs]; have : l'.length * 4 ≤ c * 4 := Nat.mul_le_mul_right _ (by rw [hl]; exact hn); omega
        have h2 : j < (flatK Vec.cells 4 l'.toArray).size := by rw [size_flatK]; simpa using hj
        simp only [if_pos hj, putCells, Array.getElem?_mapIdx, Array.getElem?_eq_getElem hjc, Option.map_some]
        rw [if_pos (by constructor <;> omega), Array.getElem?_toList, Array.getElem?_eq_getElem h2]
        exact congrArg some (getElem!_pos _ j h2)
      · rw [if_neg hj, Array.getElem?_toList, Array.getElem?_eq_none (by rw [size_flatK]; simpa using hj)]
    · refine ⟨rfl, rfl, rfl, ?_, fun k hk hp => ?_⟩
      · unfold sortWorldK
        simp [putRowK, putRow, mapBlock, Sort.ahead]
      · unfold sortWorldK
        rw [heap_grow_old _ _ (by simpa [putRowK, putRow, mapBlock, Sort.ahead] using hk)]
        simp [putRowK, putRow, mapBlock, Sort.ahead, Array.getElem?_modify, show g ≠ k from fun e => hp e.symm]
/-- The library's sort, at vectors of the program's own. -/
theorem sort_any (A : Option Addr) (c : Nat) (l : List Vec) (base : Nat) (w : World) (h : OwnV w base A c l) (hn : l.length ≤ 1048576) :
    Calls Try.prog 54 #[.slice A l.length c, .func (.func 26) #[] #[]] w fun e w' =>
      e = .returned (.tuple #[]) ∧ OwnV w' base A c (sortV l) ∧ Touch (fun k => (Value.slice A l.length c).ownBlock = some k) w w' := by
  by_cases h0 : l = []
  · subst h0
    have hcon := AnyF.slices_SortFunc_none (P := Try.prog) { laySort with } A c (.func (.func 26) #[] #[]) w
    refine (show Calls Try.prog 54 #[.slice A 0 c, _] w _ from hcon).mono fun e w' hh => ?_
    rw [hh.2]
    exact ⟨hh.1, by simpa [sortV] using h, Touch.refl _ _⟩
  · obtain ⟨g, cap, e, _, hlt⟩ := h.form (List.length_pos_iff.2 h0)
    injection e with e1 _ e3
    subst e1 e3
    have eg : ∀ args w, (callFunc 26 args).run Try.prog w = .ok (.enter 26 args) w := enters_of Try.func26 (by kernel_rfl) rfl
    have hcon := AnyQ.slices_SortFunc_total (P := Try.prog) laySort 4 Try.isAgg49 Try.sizeOf49 Vec.cells (fun _ => rfl) (fun x v hv => by simp [Vec.cells] at hv; rcases hv with rfl | rfl | rfl | rfl <;> rfl) cmpV swo_cmp 26 #[] g 0 c l.toArray w eg (fun _ _ _ _ x y => compare_grow x y _) (holds_own h) hlt (by simp; omega) tot_cmp
    have hs : l.toArray.size = l.length := by simp
    rw [hs] at hcon
    refine (show Calls Try.prog 54 #[.slice (some ⟨g, 0, none⟩) l.length c, _] w _ from hcon).mono fun e w' hh => ?_
    obtain ⟨he, n, os, rfl⟩ := hh
    have := own_sorted (n := n) (l' := sortV l) h (sortV_length l) os
    refine ⟨he, this.1, this.2.mono fun k _ hk => ?_⟩
    rw [hk]; rfl
/-- The library's Clone, of vectors that lie anywhere. -/
theorem clone_vecs (b off c : Nat) (l : List Vec) (w : World) (h : VecAt w w.heap.size (some ⟨b, off, none⟩) l) (hn : l.length ≤ 1048576) :
    Calls Try.prog 53 #[.slice (some ⟨b, off, none⟩) l.length c] w fun e w' => ∃ A' c', e = .returned (.slice A' l.length c') ∧ OwnV w' w.heap.size A' c' l ∧ Below w.heap.size w w' := by
  obtain ⟨i0, hi0, hz0, hz1, hz2⟩ := info_parts vec_info
  have hcon := AnyE.slices_Clone (P := Try.prog) layClone i0 _ 4 32 hi0 hz0 hz1 hz2 rfl (by decide) Try.sizeOf49 b off l.length c (vcL l) w (by rw [vcL_length]) (by unfold maxLen; omega) (by omega)
    (fun j u hu => h.flat j u hu) (vcL_one l)
  refine (show Calls Try.prog 53 #[.slice (some ⟨b, off, none⟩) l.length c] w _ from hcon).mono fun e w' hh => ?_
  obtain ⟨v', rfl, ho, _, hbel⟩ := hh
  obtain ⟨a, c', rfl⟩ := own_slice ho
  exact ⟨a, c', rfl, ho, hbel⟩
set_option maxHeartbeats 4000000 in
theorem sorted_any (A : Option Addr) (c : Nat) (l : List Vec) (w : World) (h : VecAt w w.heap.size A l) (h0 : 0 < l.length) (hn : l.length ≤ 1048576) :
    Calls Try.prog 38 #[.slice A l.length c] w fun e w' => ∃ A' c', e = .returned (.slice A' l.length c') ∧ OwnV w' w.heap.size A' c' (sortV l) ∧ Below w.heap.size w w' := by
  obtain ⟨b, off, rfl, _, _⟩ := h 0 h0
  have HC := Lib.hid (clone_vecs b off c l w h hn)
  have HN := Lib.hid hn
  obtain ⟨n, hnn⟩ : ∃ n, l.length = n := ⟨_, rfl⟩
  have HNN := Lib.hid hnn
  rw [hnn] at HC ⊢
  clear h h0 hn hnn
  go_enter Try.func38, Try.ntmps38
  go_wp2_with fail
  refine HC.out.mono ?_
  rintro e w1 ⟨A1, c1, rfl, ho1, b1⟩
  have hs := sort_any A1 c1 l w.heap.size w1 ho1 HN.out
  rw [HNN.out] at hs
  have HS := Lib.hid hs
  have HB := Lib.hid (And.intro ho1 b1)
  clear hs ho1 b1
  go_wp2_with fail
  refine HS.out.mono ?_
  rintro e w2 ⟨rfl, ho2, ht2⟩
  have hb2 := HB.out.2.trans (ht2.below HB.out.2.size fun k hk => by
    have ho := HB.out.1
    unfold OwnV at ho
    rw [HNN.out] at ho
    exact (World.ownsRow.lt ho k hk).1)
  have HF := Lib.hid (And.intro ho2 hb2)
  clear ho2 ht2 hb2
  go_wp2_with fail
  go_ret
  exact ⟨A1, c1, rfl, HF.out⟩
end Go.Proofs.Ytogghcbijdljkaa
