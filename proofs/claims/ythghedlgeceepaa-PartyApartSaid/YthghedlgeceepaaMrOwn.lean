/- Rows of numbers and of words that the program owns, and what is appended to them. No condition but bounds on lengths. -/
import Derived.Test.YthghedlgeceepaaMrVec
import Derived.Test.YthghedlgeceepaaOct
import Derived.Test.YthghedlgeceepaaOwn
import Derived.Maps.AppendAt
import Derived.Laws.OwnMore
import Derived.Lib.AppendZeros
namespace Go.Proofs.Ythghedlgeceepaa
open Go.RowKit
set_option maxRecDepth 100000

def intsL (l : List Int) : List Value := l.map (Value.int .i64)
def wcell (a : Wd) : List Value := [.int .i64 a.t, .int .i64 a.v, .int .i64 a.e, .int .i64 a.b]
def wordsL : List Wd → List Value
  | [] => []
  | a :: l => wcell a ++ wordsL l
theorem intsL_append (l m : List Int) : intsL (l ++ m) = intsL l ++ intsL m := by simp [intsL]
theorem wordsL_append (l m : List Wd) : wordsL (l ++ m) = wordsL l ++ wordsL m := by
  induction l with
  | nil => rfl
  | cons a l ih => simp [wordsL, ih]
theorem intsL_length (l : List Int) : (intsL l).length = l.length := by simp [intsL]
theorem wordsL_length (l : List Wd) : (wordsL l).length = l.length * 4 := by
  induction l with
  | nil => rfl
  | cons a l ih => simp [wordsL, ih, wcell]; omega
theorem intsL_at (l : List Int) (k : Nat) (h : k < l.length) : (intsL l)[k]? = some (.int .i64 (l.getD k 0)) := by
  simp [intsL, List.getD_eq_getElem?_getD, List.getElem?_eq_getElem h]
theorem wordsL_at (l : List Wd) (k : Nat) (h : k < l.length) (j : Nat) (hj : j < 4) : (wordsL l)[k * 4 + j]? = (wcell (l.getD k wd0))[j]? := by
  induction l generalizing k with
  | nil => simp at h
  | cons a l ih =>
    cases k with
    | zero =>
      simp only [wordsL]
      rw [List.getElem?_append_left (by simp [wcell]; omega)]
      simp
    | succ k =>
      simp only [wordsL]
      rw [List.getElem?_append_right (by simp [wcell]; omega)]
      have e : (k + 1) * 4 + j - (wcell a).length = k * 4 + j := by simp [wcell]; omega
      rw [e, ih k (by simpa using h)]
      simp
theorem wordsL_one (l : List Wd) : ∀ u ∈ wordsL l, u.oneCell' = true := by
  induction l with
  | nil => simp [wordsL]
  | cons a l ih =>
    intro u hu
    simp only [wordsL, List.mem_append, wcell] at hu
    rcases hu with hu | hu
    · simp only [List.mem_cons, List.not_mem_nil, or_false] at hu
      rcases hu with rfl | rfl | rfl | rfl <;> rfl
    · exact ih u hu

/-- Numbers, and words, in a row of the program's own. -/
def OwnI (w : World) (base : Nat) (A : Option Addr) (c : Nat) (l : List Int) : Prop := w.ownsRow base 3 1 (.slice A l.length c) l.length (intsL l)
def OwnW (w : World) (base : Nat) (A : Option Addr) (c : Nat) (l : List Wd) : Prop := w.ownsRow base 52 4 (.slice A l.length c) l.length (wordsL l)
theorem OwnI.at_ {w : World} {base c : Nat} {A : Option Addr} {l : List Int} (h : OwnI w base A c l) : IntsAt w w.heap.size A l := fun k hk => by
  obtain ⟨b, rfl, hl, hc⟩ := own_at h (by omega)
  exact ⟨b, 0, rfl, hl, by rw [Nat.zero_add]; exact hc k _ (intsL_at l k hk)⟩
theorem OwnW.at_ {w : World} {base c : Nat} {A : Option Addr} {l : List Wd} (h : OwnW w base A c l) : WordsAt w w.heap.size A l := fun k hk => by
  obtain ⟨b, rfl, hl, hc⟩ := own_at h (by omega)
  refine ⟨b, 0, rfl, hl, ?_, ?_, ?_, ?_⟩ <;> rw [Nat.zero_add]
  · exact hc _ _ (by rw [show k * 4 = k * 4 + 0 from rfl, wordsL_at l k hk 0 (by omega)]; rfl)
  · exact hc _ _ (by rw [wordsL_at l k hk 1 (by omega)]; rfl)
  · exact hc _ _ (by rw [wordsL_at l k hk 2 (by omega)]; rfl)
  · exact hc _ _ (by rw [wordsL_at l k hk 3 (by omega)]; rfl)
theorem append_ints (w : World) (base : Nat) (A0 : Option Addr) (c0 : Nat) (l : List Int) (hown : OwnI w base A0 c0 l) (A : Option Addr) (c B : Nat) (m : List Int) (hnone : A = none → c = 0) (hsrc : IntsAt w B A m) (hn : l.length + m.length ≤ 1048576) (hbase : base ≤ w.heap.size) :
    ∃ a' c' w', (Builtin.append_ #[22, 22] 22 #[.slice A0 l.length c0, .slice A m.length c]).run Try.prog w = .ok (.slice a' (l ++ m).length c') w' ∧ OwnI w' base a' c' (l ++ m) ∧ w.grownBy w' (Value.slice A0 l.length c0).ownBlock ∧ Moved w (.slice A0 l.length c0) (.slice a' (l ++ m).length c') ∧ (∀ k, (Value.slice A0 l.length c0).ownBlock = some k → (Value.slice a' (l ++ m).length c').ownBlock ≠ some k → w'.heap[k]? = w.heap[k]?) := by
  obtain ⟨i0, hi0, hz0, hz1, hz2⟩ := info_parts int_info
  have := append_src w base 22 22 3 i0 (.int .i64 0) 1 8 Try.underlying22 hi0 hz0 hz1 hz2 rfl (by decide) _ l.length (intsL l) hown A m.length c (intsL m) (by rw [intsL_length, Nat.mul_one]) hnone
    (fun h0 => by
      obtain ⟨b, off, rfl, _, _⟩ := hsrc 0 h0
      refine ⟨b, off, rfl, fun j u hu => ?_⟩
      have hj : j < m.length := by have := (List.getElem?_eq_some_iff.1 hu).1; rwa [intsL_length] at this
      obtain ⟨b', off', e, _, hc⟩ := hsrc j hj
      injection e with e
      injection e with e1 e2
      subst e1 e2
      rw [intsL_at m j hj] at hu
      rw [hc, hu])
    (fun u hu => by simp only [intsL, List.mem_map] at hu; obtain ⟨k, _, rfl⟩ := hu; rfl) (by unfold maxLen; omega) (by omega) hbase
  unfold OwnI
  rw [intsL_append, List.length_append]
  exact this
theorem append_words (w : World) (base : Nat) (A0 : Option Addr) (c0 : Nat) (l : List Wd) (hown : OwnW w base A0 c0 l) (A : Option Addr) (c B : Nat) (m : List Wd) (hnone : A = none → c = 0) (hsrc : WordsAt w B A m) (hn : l.length + m.length ≤ 1048576) (hbase : base ≤ w.heap.size) :
    ∃ a' c' w', (Builtin.append_ #[30, 30] 30 #[.slice A0 l.length c0, .slice A m.length c]).run Try.prog w = .ok (.slice a' (l ++ m).length c') w' ∧ OwnW w' base a' c' (l ++ m) ∧ w.grownBy w' (Value.slice A0 l.length c0).ownBlock ∧ Moved w (.slice A0 l.length c0) (.slice a' (l ++ m).length c') ∧ (∀ k, (Value.slice A0 l.length c0).ownBlock = some k → (Value.slice a' (l ++ m).length c').ownBlock ≠ some k → w'.heap[k]? = w.heap[k]?) := by
  obtain ⟨i0, hi0, hz0, hz1, hz2⟩ := info_parts word_info
  have := append_src w base 30 30 52 i0 _ 4 32 Try.underlying30 hi0 hz0 hz1 hz2 rfl (by decide) _ l.length (wordsL l) hown A m.length c (wordsL m) (by rw [wordsL_length]) hnone
    (fun h0 => by
      obtain ⟨b, off, rfl, _, _⟩ := hsrc 0 h0
      refine ⟨b, off, rfl, fun j u hu => ?_⟩
      have hj : j < m.length * 4 := by have := (List.getElem?_eq_some_iff.1 hu).1; rwa [wordsL_length] at this
      obtain ⟨b', off', e, _, q0, q1, q2, q3⟩ := hsrc (j / 4) (by omega)
      injection e with e
      injection e with e1 e2
      subst e1 e2
      have hjj : j / 4 * 4 + j % 4 = j := by omega
      have hu' := wordsL_at m (j / 4) (by omega) (j % 4) (by omega)
      rw [hjj, hu] at hu'
      rcases (show j % 4 = 0 ∨ j % 4 = 1 ∨ j % 4 = 2 ∨ j % 4 = 3 from by omega) with h | h | h | h <;> rw [h] at hu' hjj
      · rw [show off + j = off + j / 4 * 4 from by omega, q0]; exact hu'.symm
      · rw [show off + j = off + j / 4 * 4 + 1 from by omega, q1]; exact hu'.symm
      · rw [show off + j = off + j / 4 * 4 + 2 from by omega, q2]; exact hu'.symm
      · rw [show off + j = off + j / 4 * 4 + 3 from by omega, q3]; exact hu'.symm)
    (wordsL_one m) (by unfold maxLen; omega) (by omega) hbase
  unfold OwnW
  rw [wordsL_append, List.length_append]
  exact this
end Go.Proofs.Ythghedlgeceepaa
