/- A part's words as rows, and how a word more changes them: plain. No program's call, no condition. -/
import Derived.Test.YtoigapanhbmjlaaMrBytes
namespace Go.Proofs.Ytoigapanhbmjlaa

/-- The rows of a part. -/
def rowsOf (l : List Wd) : List (List Wd) :=
  match _h : l with
  | [] => []
  | w :: t => ((w :: t).take (rowLen (w :: t))) :: rowsOf ((w :: t).drop (rowLen (w :: t)))
termination_by l.length
decreasing_by
  subst _h
  rw [List.length_drop]
  simp only [rowLen, List.length_cons]
  omega
theorem rowsOf_nil : rowsOf [] = [] := by rw [rowsOf]
theorem rowsOf_cons (w : Wd) (t : List Wd) : rowsOf (w :: t) = ((w :: t).take (rowLen (w :: t))) :: rowsOf ((w :: t).drop (rowLen (w :: t))) := by rw [rowsOf]
/-- The bytes of rows, of which the first one has the mark. -/
def rowsBytes (k : Int) : Bool → List (List Wd) → List UInt8
  | _, [] => []
  | more, r :: rs => vecBytes k more r ++ rowsBytes k false rs
theorem vecs_rows (k : Int) : ∀ (N : Nat) (more : Bool) (l : List Wd), l.length ≤ N → l ≠ [] → vecs k more l = rowsBytes k more (rowsOf l) := by
  intro N
  induction N with
  | zero => intro more l hl hn; exact absurd (List.eq_nil_of_length_eq_zero (by omega)) hn
  | succ N ih =>
    intro more l hl hn
    cases l with
    | nil => exact absurd rfl hn
    | cons w t =>
      rw [vecs_cons, rowsOf_cons, rowsBytes]
      congr 1
      have hd : ((w :: t).drop (rowLen (w :: t))).length ≤ N := by rw [List.length_drop]; simp only [rowLen, List.length_cons] at hl ⊢; omega
      by_cases h : (w :: t).drop (rowLen (w :: t)) = []
      · rw [h, vecs_nil, rowsOf_nil]; rfl
      · exact ih false _ hd h
/-- The last word of a row and what stands behind it. -/
theorem rowFrom_snoc (c : Nat) (a : Wd) (l : List Wd) (w : Wd) :
    (rowFrom c a l < l.length → rowFrom c a (l ++ [w]) = rowFrom c a l) ∧ (rowFrom c a l = l.length → l.length < c → nextP ((a :: l).getLast (by simp)) w → rowFrom c a (l ++ [w]) = l.length + 1) ∧
      (rowFrom c a l = l.length → ¬ (l.length < c ∧ nextP ((a :: l).getLast (by simp)) w) → rowFrom c a (l ++ [w]) = l.length) := by
  induction c generalizing a l with
  | zero => exact ⟨fun _ => rfl, fun _ h => absurd h (Nat.not_lt_zero _), fun h _ => h⟩
  | succ c ih =>
    cases l with
    | nil =>
      refine ⟨fun h => absurd h (Nat.not_lt_zero _), fun _ _ h => ?_, fun _ h => ?_⟩
      · simp only [List.getLast_singleton] at h
        simp only [List.nil_append, rowFrom, if_pos h]
        cases c <;> rfl
      · simp only [List.getLast_singleton, List.length_nil] at h
        simp only [List.nil_append, rowFrom]
        rw [if_neg (fun h' => h ⟨Nat.succ_pos _, h'⟩)]; rfl
    | cons b l =>
      have hh := rowFrom_le c b l
      have hi := ih b l
      have hg : (a :: b :: l).getLast (by simp) = (b :: l).getLast (by simp) := List.getLast_cons (by simp)
      rw [hg]
      by_cases hn : nextP a b
      · have e1 : rowFrom (c + 1) a (b :: l) = rowFrom c b l + 1 := by simp only [rowFrom, if_pos hn]
        have e2 : rowFrom (c + 1) a (b :: l ++ [w]) = rowFrom c b (l ++ [w]) + 1 := by simp only [List.cons_append, rowFrom, if_pos hn]
        rw [e1, e2]
        simp only [List.length_cons]
        refine ⟨fun h => ?_, fun h h1 h2 => ?_, fun h h1 => ?_⟩
        · rw [hi.1 (by omega)]
        · rw [hi.2.1 (by omega) (by omega) h2]
        · rw [hi.2.2 (by omega) (fun h2 => h1 ⟨by omega, h2.2⟩)]
      · have e1 : rowFrom (c + 1) a (b :: l) = 0 := by simp only [rowFrom, if_neg hn]
        have e2 : rowFrom (c + 1) a (b :: l ++ [w]) = 0 := by simp only [List.cons_append, rowFrom, if_neg hn]
        rw [e1, e2]
        exact ⟨fun _ => rfl, fun h => by simp at h, fun h => by simp at h⟩
theorem rowLen_snoc (a : Wd) (l : List Wd) (w : Wd) :
    (rowLen (a :: l) < (a :: l).length → rowLen (a :: l ++ [w]) = rowLen (a :: l)) ∧ (rowLen (a :: l) = (a :: l).length → (a :: l).length < 200 → nextP ((a :: l).getLast (by simp)) w → rowLen (a :: l ++ [w]) = (a :: l).length + 1) ∧
      (rowLen (a :: l) = (a :: l).length → ¬ ((a :: l).length < 200 ∧ nextP ((a :: l).getLast (by simp)) w) → rowLen (a :: l ++ [w]) = (a :: l).length) := by
  have h := rowFrom_snoc 199 a l w
  simp only [List.cons_append, rowLen, List.length_cons]
  refine ⟨fun h1 => ?_, fun h1 h2 h3 => ?_, fun h1 h2 => ?_⟩
  · rw [h.1 (by omega)]
  · rw [h.2.1 (by omega) (by omega) h3]
  · rw [h.2.2 (by omega) (fun h3 => h2 ⟨by omega, h3.2⟩)]
theorem rowLen_bds (a : Wd) (l : List Wd) : rowLen (a :: l) ≤ (a :: l).length ∧ 0 < rowLen (a :: l) := by
  have := rowFrom_le 199 a l
  simp only [rowLen, List.length_cons]; omega
/-- One word more: to the last row, or to a new one. -/
theorem rowsOf_snoc : ∀ (N : Nat) (p : List Wd) (w : Wd), p.length ≤ N → p ≠ [] →
    ∃ (d : List (List Wd)) (c : List Wd) (hc : c ≠ []), rowsOf p = d ++ [c] ∧ rowsOf (p ++ [w]) = (if c.length < 200 ∧ nextP (c.getLast hc) w then d ++ [c ++ [w]] else d ++ [c, [w]]) := by
  intro N
  induction N with
  | zero => intro p w hl hn; exact absurd (List.eq_nil_of_length_eq_zero (by omega)) hn
  | succ N ih =>
    intro p w hl hn
    cases p with
    | nil => exact absurd rfl hn
    | cons a t =>
      have hle := rowLen_bds a t
      have hs := rowLen_snoc a t w
      have e3 : rowsOf (a :: t ++ [w]) = (a :: t ++ [w]).take (rowLen (a :: t ++ [w])) :: rowsOf ((a :: t ++ [w]).drop (rowLen (a :: t ++ [w]))) := rowsOf_cons a (t ++ [w])
      by_cases h1 : rowLen (a :: t) < (a :: t).length
      · have hdn : (a :: t).drop (rowLen (a :: t)) ≠ [] := by
          intro h; have := congrArg List.length h; rw [List.length_drop] at this; simp only [List.length_nil] at this; omega
        obtain ⟨d, c, hc, e1, e2⟩ := ih ((a :: t).drop (rowLen (a :: t))) w (by rw [List.length_drop]; omega) hdn
        refine ⟨(a :: t).take (rowLen (a :: t)) :: d, c, hc, by rw [rowsOf_cons, e1]; rfl, ?_⟩
        rw [e3, hs.1 h1, List.take_append_of_le_length (by omega), List.drop_append_of_le_length (by omega), e2]
        split <;> rfl
      · have hfull : rowLen (a :: t) = (a :: t).length := by omega
        refine ⟨[], a :: t, by simp, by rw [rowsOf_cons, hfull, List.take_length, List.drop_length, rowsOf_nil]; rfl, ?_⟩
        by_cases h2 : (a :: t).length < 200 ∧ nextP ((a :: t).getLast (by simp)) w
        · rw [if_pos h2, e3, hs.2.1 hfull h2.1 h2.2, show (a :: t).length + 1 = (a :: t ++ [w]).length by simp, List.take_length, List.drop_length, rowsOf_nil]; rfl
        · rw [if_neg h2, e3, hs.2.2 hfull h2, List.take_append_of_le_length (Nat.le_refl _), List.drop_append_of_le_length (Nat.le_refl _), List.take_length, List.drop_length]
          simp only [List.nil_append]
          rw [rowsOf_cons]
          have : rowLen [w] = 1 := rfl
          rw [this]
          simp [rowsOf_nil]
theorem rowsOf_one (w : Wd) : rowsOf [w] = [[w]] := by
  rw [rowsOf_cons]
  have : rowLen [w] = 1 := rfl
  rw [this]
  simp [rowsOf_nil]
/-- Each row has words, at most 200, of one tick, and they are the part's. -/
theorem rowsOf_row : ∀ (N : Nat) (p r : List Wd), p.length ≤ N → r ∈ rowsOf p → r ≠ [] ∧ r.length ≤ 200 ∧ (∀ a ∈ r, a ∈ p) ∧ ∀ a ∈ r, a.b = headB r := by
  intro N
  induction N with
  | zero =>
    intro p r hl hr
    have : p = [] := List.eq_nil_of_length_eq_zero (by omega)
    subst this
    rw [rowsOf_nil] at hr
    exact absurd hr (by simp)
  | succ N ih =>
    intro p r hl hr
    cases p with
    | nil => rw [rowsOf_nil] at hr; exact absurd hr (by simp)
    | cons a t =>
      have hle := rowLen_bds a t
      rw [rowsOf_cons, List.mem_cons] at hr
      rcases hr with rfl | hr
      · have hff := rowFrom_le 199 a t
        refine ⟨?_, ?_, fun x hx => List.mem_of_mem_take hx, ?_⟩
        · intro h; have := congrArg List.length h; rw [List.length_take] at this; simp only [List.length_nil, List.length_cons] at *; omega
        · rw [List.length_take]; simp only [rowLen]; omega
        · intro x hx
          simp only [rowLen, List.take_succ_cons] at hx ⊢
          rw [List.mem_cons] at hx
          rcases hx with rfl | hx
          · rfl
          · obtain ⟨i, hi⟩ := List.getElem?_of_mem hx
            exact (rowFrom_at 199 a t i x hi).2
      · obtain ⟨h1, h2, h3, h4⟩ := ih _ r (by rw [List.length_drop]; simp only [List.length_cons] at *; omega) hr
        exact ⟨h1, h2, fun x hx => List.mem_of_mem_drop (h3 x hx), h4⟩
end Go.Proofs.Ytoigapanhbmjlaa
