/- Vectors: rows cut and joined, how often one is in a list, and what sorting keeps. No condition but bounds on lengths. -/
import Derived.Test.YtogghcbijdljkaaOpen
import Derived.Test.YtogghcbijdljkaaVopen
import Derived.Test.YtogghcbijdljkaaVsort
namespace Go.Proofs.Ytogghcbijdljkaa
open Go.ChangeShapes Go.WideShapes Go.ChangeAt Go.RowKit Go.Deep
open Go.Shelf Go.Lib Go.Sort
set_option maxRecDepth 100000

theorem open_vecs {H : Type} {enc : TypeId × Value → H} {w : World} {fuel : Nat} {cs : List Value} {x : DataW H × List MemPlace} (h : DataW.trod enc Try.prog w 0 (fun _ => true) true fuel 67 cs = some x) :
    ∃ a cap, ∃ l : List Vec, cs = [.slice a l.length cap] ∧ VecAt w w.heap.size a l ∧ (∀ x ∈ l, x.ok) ∧ l.length ≤ cap := by
  obtain ⟨a, len, cap, rfl, hl, _, _, hi⟩ := open_rows (k := 4) Try.underlying67 (by kernel_rfl) (by decide) h
  obtain ⟨l, hll, hp⟩ := list_of (p := fun i (x : Vec) => (∃ b off, a = some ⟨b, off, none⟩ ∧ b < w.heap.size ∧ VcCells w b (off + i * 4) x) ∧ x.ok) (fun i hil => by
    obtain ⟨b, off, n, y, cs', rfl, hb, hlen, hc, ht⟩ := hi i hil
    match cs', hlen with
    | [c0, c1, c2, c3], _ =>
      obtain ⟨v, rfl, rfl, rfl, rfl, ho⟩ := trod_vec ht
      exact ⟨v, ⟨b, off, rfl, hb, hc 0 (by decide), hc 1 (by decide), hc 2 (by decide), hc 3 (by decide)⟩, ho⟩)
  refine ⟨a, cap, l, by rw [hll], fun i hil => ?_, fun x hx => ?_, by rw [hll]; exact hl⟩
  · exact (hp i (by omega)).1
  · obtain ⟨i, hi', rfl⟩ := List.getElem_of_mem hx
    have := (hp i (by omega)).2
    rwa [List.getD_eq_getElem?_getD, List.getElem?_eq_getElem hi'] at this
theorem VecAt.drop {w : World} {B b off : Nat} {l : List Vec} (h : VecAt w B (some ⟨b, off, none⟩) l) (k : Nat) : VecAt w B (some ⟨b, off + k * 4, none⟩) (l.drop k) := fun i hi => by
  rw [List.length_drop] at hi
  obtain ⟨b', off', e, hl, hc⟩ := h (k + i) (by omega)
  injection e with e
  injection e with e1 e2
  subst e1 e2
  refine ⟨b, _, rfl, hl, ?_⟩
  rw [List.getD_eq_getElem?_getD, List.getElem?_drop, ← List.getD_eq_getElem?_getD]
  rw [show off + k * 4 + i * 4 = off + (k + i) * 4 by omega]
  exact hc
theorem VecAt.take {w : World} {B : Nat} {A : Option Addr} {l : List Vec} (h : VecAt w B A l) (k : Nat) : VecAt w B A (l.take k) := fun i hi => by
  rw [List.length_take] at hi
  obtain ⟨b, off, e, hl, hc⟩ := h i (by omega)
  refine ⟨b, off, e, hl, ?_⟩
  rw [List.getD_eq_getElem?_getD, List.getElem?_take, if_pos (by omega), ← List.getD_eq_getElem?_getD]
  exact hc
theorem append_vec (w : World) (base : Nat) (A0 : Option Addr) (c0 n0 : Nat) (l : List Vec) (hl0 : l.length = n0) (hown : OwnV w base A0 c0 l) (b off c n1 B : Nat) (m : List Vec) (hl1 : m.length = n1) (hsrc : VecAt w B (some ⟨b, off, none⟩) m) (hn : l.length + m.length ≤ 1048576) (hbase : base ≤ w.heap.size) :
    ∃ a' c' w', (Builtin.append_ #[67, 67] 67 #[.slice A0 n0 c0, .slice (some ⟨b, off, none⟩) n1 c]).run Try.prog w = .ok (.slice a' (n0 + n1) c') w' ∧ OwnV w' base a' c' (l ++ m) ∧ w.grownBy w' (Value.slice A0 n0 c0).ownBlock ∧ Moved w (.slice A0 n0 c0) (.slice a' (n0 + n1) c') := by
  subst hl0
  subst hl1
  obtain ⟨i0, hi0, hz0, hz1, hz2⟩ := info_parts vec_info
  obtain ⟨a', c', w', hr, ho, hg, hmv, _⟩ := append_src w base 67 67 49 i0 _ 4 32 Try.underlying67 hi0 hz0 hz1 hz2 rfl (by decide) _ l.length (vcL l) hown (some ⟨b, off, none⟩) m.length c (vcL m) (by rw [vcL_length]) (fun h => by cases h) (fun _ => ⟨b, off, rfl, fun j u hu => hsrc.flat j u hu⟩)
    (vcL_one m) (by unfold maxLen; omega) (by omega) hbase
  refine ⟨a', c', w', hr, ?_, hg, hmv⟩
  unfold OwnV
  rw [vcL_append, List.length_append]
  exact ho
theorem VecAt.grown {w w' : World} {A : Option Addr} {l : List Vec} {ob : Option Nat} (h : VecAt w w.heap.size A l) (hg : w.grownBy w' ob) (hne : ∀ q, A = some q → ob ≠ some q.block) : VecAt w' w'.heap.size A l := fun k hk => by
  obtain ⟨b, off, e, hl, hc⟩ := h k hk
  have hh := hg.block b hl (fun e2 => hne _ e e2.symm)
  have hcell : ∀ i, w'.cell? ⟨b, i, none⟩ = w.cell? ⟨b, i, none⟩ := fun i => by unfold World.cell?; rw [hh]
  exact ⟨b, off, e, Nat.lt_of_lt_of_le hl hg.size, (hcell _).trans hc.c0, (hcell _).trans hc.c1, (hcell _).trans hc.c2, (hcell _).trans hc.c3⟩
/-- How often v is among the first j. -/
def cntV (v : Vec) (l : List Vec) (j : Nat) : Nat := (l.take j).countP fun u => decide (u = v)
theorem cntV_step (v : Vec) (l : List Vec) (j : Nat) (hj : j < l.length) : cntV v l (j + 1) = cntV v l j + if l.getD j vc0 = v then 1 else 0 := by
  have e : l.getD j vc0 = l[j] := by simp [List.getD_eq_getElem?_getD, List.getElem?_eq_getElem hj]
  unfold cntV
  rw [List.take_succ_eq_append_getElem hj, List.countP_append, e]
  by_cases h : l[j] = v <;> simp [h]
theorem cntV_le (v : Vec) (l : List Vec) (j : Nat) : cntV v l j ≤ j := by
  unfold cntV
  exact Nat.le_trans (List.countP_le_length) (by rw [List.length_take]; omega)
theorem cntV_perm (v : Vec) {l m : List Vec} (h : l.Perm m) (n : Nat) (hl : l.length = n) : cntV v l n = cntV v m n := by
  unfold cntV
  rw [List.take_of_length_le (by omega), List.take_of_length_le (by have := h.length_eq; omega)]
  exact h.countP_eq _
theorem sortV_up (l : List Vec) (i : Nat) (hi : i + 1 < (sortV l).length) : ¬ ltV ((sortV l).getD (i + 1) vc0) ((sortV l).getD i vc0) := by
  have hp : (sortV l).Pairwise fun x y => (!(ltOf cmpV) y x) = true := List.pairwise_mergeSort (fun a b c h1 h2 => by
      simp only [Bool.not_eq_true', lt_false] at h1 h2 ⊢
      exact leV_trans h1 h2) (fun a b => by
      by_cases h : ltV b a
      · have h2 : ¬ ltV a b := by unfold ltV at *; omega
        simp [lt_cmp, h, h2]
      · simp [lt_cmp, h]) l
  have := List.pairwise_iff_getElem.1 hp i (i + 1) (by omega) hi (by omega)
  simp only [Bool.not_eq_true', lt_false] at this
  rw [List.getD_eq_getElem?_getD, List.getElem?_eq_getElem hi, List.getD_eq_getElem?_getD, List.getElem?_eq_getElem (by omega : i < (sortV l).length)]
  exact this
/-- Sorted rows of the same vectors are the same. -/
theorem eq_of_perm {r : Vec → Vec → Prop} (anti : ∀ a b, r a b → r b a → a = b) (refl : ∀ a, r a a) : ∀ {l m : List Vec}, l.Perm m → l.Pairwise r → m.Pairwise r → l = m
  | [], m, h, _, _ => (List.nil_perm.1 h).symm
  | a :: l, [], h, _, _ => absurd h.length_eq (by simp)
  | a :: l, b :: m, h, h1, h2 => by
    obtain ⟨ha, hl⟩ := List.pairwise_cons.1 h1
    obtain ⟨hb, hm⟩ := List.pairwise_cons.1 h2
    have e : a = b := by
      have m1 : a ∈ b :: m := h.mem_iff.1 (List.mem_cons_self)
      have m2 : b ∈ a :: l := h.mem_iff.2 (List.mem_cons_self)
      rcases List.mem_cons.1 m1 with e | m1
      · exact e
      · rcases List.mem_cons.1 m2 with e | m2
        · exact e.symm
        · exact anti _ _ (ha _ m2) (hb _ m1)
    subst e
    rw [eq_of_perm anti refl (List.perm_cons a |>.1 h) hl hm]
theorem sortV_same {l m : List Vec} (h : l.Perm m) : sortV l = sortV m := by
  have hp : ∀ l : List Vec, (sortV l).Pairwise fun x y => ¬ ltV y x := fun l => by
    refine List.pairwise_iff_getElem.2 fun i j hi hj hij => ?_
    have hp : (sortV l).Pairwise fun x y => (!(ltOf cmpV) y x) = true := List.pairwise_mergeSort (fun a b c h1 h2 => by
      simp only [Bool.not_eq_true', lt_false] at h1 h2 ⊢
      exact leV_trans h1 h2) (fun a b => by
      by_cases h : ltV b a
      · have h2 : ¬ ltV a b := by unfold ltV at *; omega
        simp [lt_cmp, h, h2]
      · simp [lt_cmp, h]) l
    have := List.pairwise_iff_getElem.1 hp i j hi hj hij
    simpa only [Bool.not_eq_true', lt_false] using this
  exact eq_of_perm (fun a b h1 h2 => ltV_total a b h2 h1) ltV_irrefl (((sortV_perm l).trans h).trans (sortV_perm m).symm) (hp l) (hp m)
end Go.Proofs.Ytogghcbijdljkaa
