/- What the document's Bytes puts together, step by step: plain. No program's call, no condition. -/
import Derived.Test.YtoigapanhbmjlaaMrRowsOf
namespace Go.Proofs.Ytoigapanhbmjlaa

/-- A message's bytes up to a type. -/
def preB (m : Msg) : Nat → List UInt8
  | 0 => [0]
  | q + 1 => preB m q ++ partBytes (((q + 1 : Nat) : Int)) (decide ((((q + 1 : Nat) : Int)) ∈ m.all)) (ofK (((q + 1 : Nat) : Int)) m.ws)
theorem preB_all (m : Msg) : preB m 3 ++ [0, 0] = m.bytes := by
  simp only [preB, Msg.bytes, List.append_assoc]
  rfl
theorem ofK_step (k : Int) (ws : List Wd) (j : Nat) (hj : j < ws.length) (x : Wd) (hx0 : ws[j]? = some x) :
    ofK k (ws.take (j + 1)) = ofK k (ws.take j) ++ (if x.t = k then [x] else []) := by
  have e : ws[j] = x := by rw [List.getElem?_eq_getElem hj] at hx0; injection hx0
  rw [List.take_succ_eq_append_getElem hj, e]
  unfold ofK
  rw [List.filter_append]
  congr 1
  by_cases h : x.t = k
  · rw [if_pos h]; simp [h]
  · rw [if_neg h]; simp [h]
theorem rowsBytes_snoc (k : Int) (more : Bool) (rs : List (List Wd)) (i : Nat) (hi : i < rs.length) :
    rowsBytes k more (rs.take (i + 1)) = rowsBytes k more (rs.take i) ++ vecBytes k (more && decide (i = 0)) (rs.getD i []) := by
  induction rs generalizing i more with
  | nil => exact absurd hi (Nat.not_lt_zero _)
  | cons r rs ih =>
    cases i with
    | zero => simp [rowsBytes]
    | succ i =>
      rw [List.take_succ_cons, List.take_succ_cons, rowsBytes, rowsBytes, ih false i (by simpa using hi), List.append_assoc]
      simp
theorem vecBytes_212 (k : Int) (more : Bool) (l : List Wd) (h : l.length ≤ 200) : (vecBytes k more l).length ≤ 212 := by
  unfold vecBytes
  have h1 := vs_le k
  have h2 := sz_le l.length 3 6 (.inl ⟨rfl, rfl⟩)
  simp only [List.length_append, be_length, rows_length]
  omega
theorem rowsBytes_length (k : Int) (more : Bool) (rs : List (List Wd)) (h : ∀ r ∈ rs, r.length ≤ 200) : (rowsBytes k more rs).length ≤ 212 * rs.length := by
  induction rs generalizing more with
  | nil => simp [rowsBytes]
  | cons r rs ih =>
    have h1 := vecBytes_212 k more r (h r (by simp))
    have h2 := ih false (fun r hr => h r (by simp [hr]))
    simp only [rowsBytes, List.length_append, List.length_cons]
    omega
theorem rowsOf_length : ∀ (N : Nat) (l : List Wd), l.length ≤ N → (rowsOf l).length ≤ l.length := by
  intro N
  induction N with
  | zero =>
    intro l hl
    have : l = [] := List.eq_nil_of_length_eq_zero (by omega)
    subst this
    rw [rowsOf_nil]; exact Nat.le_refl _
  | succ N ih =>
    intro l hl
    cases l with
    | nil => rw [rowsOf_nil]; exact Nat.le_refl _
    | cons a t =>
      have hle := rowLen_bds a t
      have := ih ((a :: t).drop (rowLen (a :: t))) (by rw [List.length_drop]; simp only [List.length_cons] at *; omega)
      rw [rowsOf_cons]
      rw [List.length_drop] at this
      simp only [List.length_cons] at *
      omega
theorem rowsOf_pos {l : List Wd} (h : l ≠ []) : 0 < (rowsOf l).length := by
  cases l with
  | nil => exact absurd rfl h
  | cons a t => rw [rowsOf_cons]; simp
theorem part_none (k : Int) : partBytes k false [] = [] := by simp [partBytes]
theorem part_mark (k : Int) : partBytes k true [] = be k 1 ++ be (vs k) 1 ++ vecBytes k true [] ++ [0, 0] := by
  simp [partBytes, vecs_nil]
theorem part_rows (k : Int) (all : Bool) (l : List Wd) (h : l ≠ []) : partBytes k all l = be k 1 ++ be (vs k) 1 ++ rowsBytes k all (rowsOf l) ++ [0, 0] := by
  unfold partBytes
  rw [if_neg (fun e => h e.2), vecs_rows k l.length all l (Nat.le_refl _) h]
  simp
theorem ofK_less (k : Int) (l : List Wd) : (ofK k l).length ≤ l.length := List.length_filter_le _ _
theorem part_length (k : Int) (all : Bool) (l : List Wd) (h : l.length ≤ 500) : (partBytes k all l).length ≤ 110000 := by
  cases l with
  | nil =>
    cases all
    · rw [part_none]; simp
    · rw [part_mark]
      have := vecBytes_212 k true [] (by simp)
      simp only [List.length_append, be_length, List.length_cons, List.length_nil]
      omega
  | cons a t =>
    rw [part_rows k all _ (by simp)]
    have h1 := rowsBytes_length k all (rowsOf (a :: t)) (fun r hr => (rowsOf_row _ _ r (Nat.le_refl _) hr).2.1)
    have h2 := rowsOf_length _ (a :: t) (Nat.le_refl _)
    simp only [List.length_append, be_length, List.length_cons, List.length_nil] at *
    omega
theorem pre_length (m : Msg) (h : m.ws.length ≤ 500) (q : Nat) : (preB m q).length ≤ 1 + q * 110000 := by
  induction q with
  | zero => simp [preB]
  | succ q ih =>
    have := part_length (((q + 1 : Nat) : Int)) (decide ((((q + 1 : Nat) : Int)) ∈ m.all)) (ofK (((q + 1 : Nat) : Int)) m.ws) (Nat.le_trans (ofK_less _ _) h)
    simp only [preB, List.length_append]
    omega
/-- What becomes of the rows by a word more of the kind. -/
theorem rows_step (p : List Wd) (x : Wd) :
    (p = [] ∧ rowsOf (p ++ [x]) = [[x]]) ∨
    ∃ (d : List (List Wd)) (c : List Wd) (hc : c ≠ []), rowsOf p = d ++ [c] ∧ c.length ≤ 200 ∧ (∀ a ∈ c, a ∈ p) ∧ (c.getLast hc).b = headB c ∧
      ((c.length < 200 ∧ (c.getLast hc).v + 1 = x.v ∧ headB c = x.b ∧ rowsOf (p ++ [x]) = d ++ [c ++ [x]]) ∨ (¬ (c.length < 200 ∧ (c.getLast hc).v + 1 = x.v ∧ headB c = x.b) ∧ rowsOf (p ++ [x]) = rowsOf p ++ [[x]])) := by
  by_cases h : p = []
  · subst h; exact .inl ⟨rfl, by rw [List.nil_append, rowsOf_one]⟩
  · right
    obtain ⟨d, c, hc, e1, e2⟩ := rowsOf_snoc p.length p x (Nat.le_refl _) h
    have hm := rowsOf_row p.length p c (Nat.le_refl _) (by rw [e1]; simp)
    have hb := hm.2.2.2 (c.getLast hc) (List.getLast_mem hc)
    refine ⟨d, c, hc, e1, hm.2.1, hm.2.2.1, hb, ?_⟩
    by_cases h2 : c.length < 200 ∧ (c.getLast hc).v + 1 = x.v ∧ headB c = x.b
    · refine .inl ⟨h2.1, h2.2.1, h2.2.2, ?_⟩
      rw [e2, if_pos ⟨h2.1, h2.2.1, by rw [hb]; exact h2.2.2⟩]
    · refine .inr ⟨h2, ?_⟩
      rw [e2, if_neg (fun h3 => h2 ⟨h3.1, h3.2.1, by rw [← hb]; exact h3.2.2⟩), e1]
      simp
end Go.Proofs.Ytoigapanhbmjlaa
