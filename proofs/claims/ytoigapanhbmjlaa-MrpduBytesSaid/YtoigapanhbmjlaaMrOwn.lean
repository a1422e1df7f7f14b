/- Rows of numbers and of words that the program owns, and what is appended to them. No condition but bounds on lengths. -/
import Derived.Test.YtoigapanhbmjlaaMrVec
import Derived.Test.YtoigapanhbmjlaaWrite
import Derived.Maps.AppendAt
import Derived.Laws.OwnMore
import Derived.Lib.AppendZeros
namespace Go.Proofs.Ytoigapanhbmjlaa
open Go.RowKit

def intsL (l : List Int) : List Value := l.map (Value.int .i64)
def wcell (a : Wd) : List Value := [.int .i64 a.t, .int .i64 a.v, .int .i64 a.e, .int .i64 a.b]
def wordsL : List Wd → List Value
  | [] => []
  | a :: l => wcell a ++ wordsL l
theorem intsL_append (l m : List Int) : intsL (l ++ m) = intsL l ++ intsL m := by simp [intsL]
theorem wordsL_append (l m : List Wd) : wordsL (l ++ m) = wordsL l ++ wordsL m := by
  induction l with
  | nil => rfl
  | cons a l ih => simp [wordsL, ih]
theorem intsL_length (l : List Int) : (intsL l).length = l.length := by simp [intsL]
theorem wordsL_length (l : List Wd) : (wordsL l).length = l.length * 4 := by
  induction l with
  | nil => rfl
  | cons a l ih => simp [wordsL, ih, wcell]; omega
theorem intsL_at (l : List Int) (k : Nat) (h : k < l.length) : (intsL l)[k]? = some (.int .i64 (l.getD k 0)) := by
  simp [intsL, List.getD_eq_getElem?_getD, List.getElem?_eq_getElem h]
theorem wordsL_at (l : List Wd) (k : Nat) (h : k < l.length) (j : Nat) (hj : j < 4) : (wordsL l)[k * 4 + j]? = (wcell (l.getD k wd0))[j]? := by
  induction l generalizing k with
  | nil => simp at h
  | cons a l ih =>
    cases k with
    | zero =>
      simp only [wordsL]
      rw [List.getElem?_append_left (by simp [wcell]; omega)]
      simp
    | succ k =>
      simp only [wordsL]
      rw [List.getElem?_append_right (by simp [wcell]; omega)]
      have e : (k + 1) * 4 + j - (wcell a).length = k * 4 + j := by simp [wcell]; omega
      rw [e, ih k (by simpa using h)]
      simp
theorem wordsL_one (l : List Wd) : ∀ u ∈ wordsL l, u.oneCell' = true := by
  induction l with
  | nil => simp [wordsL]
  | cons a l ih =>
    intro u hu
    simp only [wordsL, List.mem_append, wcell] at hu
    rcases hu with hu | hu
    · simp only [List.mem_cons, List.not_mem_nil, or_false] at hu
      rcases hu with rfl | rfl | rfl | rfl <;> rfl
    · exact ih u hu

/-- Numbers, and words, in a row of the program's own. -/
def OwnI (w : World) (base : Nat) (A : Option Addr) (c : Nat) (l : List Int) : Prop := w.ownsRow base 3 1 (.slice A l.length c) l.length (intsL l)
def OwnW (w : World) (base : Nat) (A : Option Addr) (c : Nat) (l : List Wd) : Prop := w.ownsRow base 43 4 (.slice A l.length c) l.length (wordsL l)
theorem own_cap {w : World} {base : Nat} {e : TypeId} {size n c : Nat} {A : Option Addr} {xs : List Value} (h : w.ownsRow base e size (.slice A n c) n xs) : n ≤ c ∧ (A = none → c = 0) := by
  rcases h.2 with ⟨h, h0⟩ | ⟨g, cap, cur, h, _, _, hn, _⟩
  · injection h with h1 h2 h3
    subst h3
    exact ⟨by omega, fun _ => rfl⟩
  · injection h with h1 h2 h3
    subst h3 h1
    exact ⟨hn, fun h => by cases h⟩
theorem own_at {w : World} {base : Nat} {e : TypeId} {size n c : Nat} {A : Option Addr} {xs : List Value} (h : w.ownsRow base e size (.slice A n c) n xs) (hn : 0 < n) :
    ∃ b, A = some ⟨b, 0, none⟩ ∧ b < w.heap.size ∧ ∀ j u, xs[j]? = some u → w.cell? ⟨b, j, none⟩ = some u := by
  obtain ⟨g, cap, e', _, hlt⟩ := h.form hn
  injection e' with e1 e2 e3
  subst e1
  refine ⟨g, rfl, hlt, fun j u hu => ?_⟩
  have := h.cells (g := g) rfl j u hu
  rwa [Addr.add_lit, Nat.zero_add] at this
theorem OwnI.at_ {w : World} {base c : Nat} {A : Option Addr} {l : List Int} (h : OwnI w base A c l) : IntsAt w w.heap.size A l := fun k hk => by
  obtain ⟨b, rfl, hl, hc⟩ := own_at h (by omega)
  exact ⟨b, 0, rfl, hl, by rw [Nat.zero_add]; exact hc k _ (intsL_at l k hk)⟩
theorem OwnW.at_ {w : World} {base c : Nat} {A : Option Addr} {l : List Wd} (h : OwnW w base A c l) : WordsAt w w.heap.size A l := fun k hk => by
  obtain ⟨b, rfl, hl, hc⟩ := own_at h (by omega)
  refine ⟨b, 0, rfl, hl, ?_, ?_, ?_, ?_⟩ <;> rw [Nat.zero_add]
  · exact hc _ _ (by rw [show k * 4 = k * 4 + 0 from rfl, wordsL_at l k hk 0 (by omega)]; rfl)
  · exact hc _ _ (by rw [wordsL_at l k hk 1 (by omega)]; rfl)
  · exact hc _ _ (by rw [wordsL_at l k hk 2 (by omega)]; rfl)
  · exact hc _ _ (by rw [wordsL_at l k hk 3 (by omega)]; rfl)
/-- A block of another type is none of the row's. -/
theorem own_ne {w : World} {base : Nat} {e t : TypeId} {size n g : Nat} {v : Value} {xs : List Value} {cs : Array Value} (h : w.ownsRow base e size v n xs) (hb : Blk w g t cs) (ht : t ≠ e) : v.ownBlock ≠ some g := by
  intro hv
  rcases h.2 with ⟨rfl, _⟩ | ⟨g', cap, cur, rfl, _, hg, _⟩
  · simp [Value.ownBlock] at hv
  · have : g' = g := by simpa [Value.ownBlock] using hv
    subst this
    unfold Blk at hb
    rw [hg] at hb
    injection hb with hb
    injection hb with _ hb
    exact ht hb.symm
theorem own_own {w : World} {base base' : Nat} {e t : TypeId} {size size' n n' g : Nat} {v v' : Value} {xs xs' : List Value} (h : w.ownsRow base e size v n xs) (h' : w.ownsRow base' t size' v' n' xs') (ht : t ≠ e) (hg : v'.ownBlock = some g) : v.ownBlock ≠ some g := by
  rcases h'.2 with ⟨rfl, _⟩ | ⟨g', cap, cur, rfl, _, hg', _⟩
  · simp [Value.ownBlock] at hg
  · have : g' = g := by simpa [Value.ownBlock] using hg
    subst this
    exact own_ne (cs := cur) h hg' ht

/-- Something is appended to a row of one's own, wherever it came from. -/
theorem append_src (w : World) (base : Nat) (t ty e : TypeId) (i : TypeInfo) (z : Value) (size bytes : Nat) (ht : Try.prog.underlying t = some (.slice e)) (hi : Try.prog.info? e = some i) (hz : i.zero = some z)
    (hsize : i.size = size) (hby : i.bytes = bytes) (hzs : z.cells.size = size) (hsz : 0 < size) (v : Value) (n : Nat) (xs : List Value) (hown : w.ownsRow base e size v n xs)
    (A : Option Addr) (m c : Nat) (news : List Value) (hl : news.length = m * size) (hnone : A = none → c = 0) (hsrc : 0 < m → ∃ b off, A = some ⟨b, off, none⟩ ∧ ∀ j u, news[j]? = some u → w.cell? ⟨b, off + j, none⟩ = some u)
    (h1 : ∀ u ∈ news, u.oneCell' = true) (h63 : n + m ≤ maxLen) (hbytes : (n + m) * bytes ≤ 140737488355328) (hbase : base ≤ w.heap.size) :
    ∃ a' c' w', (Builtin.append_ #[t, t] ty #[v, .slice A m c]).run Try.prog w = .ok (.slice a' (n + m) c') w' ∧ w'.ownsRow base e size (.slice a' (n + m) c') (n + m) (xs ++ news) ∧ w.grownBy w' v.ownBlock ∧ Moved w v (.slice a' (n + m) c') ∧ (∀ k, v.ownBlock = some k → (Value.slice a' (n + m) c').ownBlock ≠ some k → w'.heap[k]? = w.heap[k]?) := by
  cases A with
  | none =>
    have hm : m = 0 := by
      rcases Nat.eq_zero_or_pos m with h | h
      · exact h
      · obtain ⟨_, _, e, _⟩ := hsrc h
        cases e
    subst hm
    obtain rfl := hnone rfl
    have hn0 : news = [] := List.eq_nil_of_length_eq_zero (by simpa using hl)
    subst hn0
    obtain ⟨a', c', rfl⟩ := own_slice hown
    refine ⟨a', c', w, run_append_owned_none (P := Try.prog) w base t ty e i size ht hi _ n xs hown, ?_, ⟨rfl, rfl, rfl, Nat.le_refl _, fun _ _ _ => rfl⟩, .inl rfl, fun _ _ _ => rfl⟩
    simpa using hown
  | some ad =>
    have hcell : ∀ j u, news[j]? = some u → w.cell? (ad.add j) = some u := by
      intro j u hu
      have hm : 0 < m := by
        rcases Nat.eq_zero_or_pos m with h | h
        · subst h
          have hn0 : news = [] := List.eq_nil_of_length_eq_zero (by simpa using hl)
          subst hn0
          simp at hu
        · exact h
      obtain ⟨b, off, e, hc⟩ := hsrc hm
      injection e with e
      subst e
      rw [Addr.add_lit]
      exact hc j u hu
    obtain ⟨v', w', hr, ho, hg, _, hm⟩ := run_append_own_at (P := Try.prog) w base t ty e i z size bytes ht hi hz hsize hby hzs hsz v n xs hown ad m c news hl hcell h1 h63 hbytes hbase
    obtain ⟨a', c', rfl⟩ := own_slice ho
    refine ⟨a', c', w', hr, ho, hg, ?_, ?_⟩
    · rcases hm with hm | hm
      · exact .inl hm
      · exact .inr ⟨w.heap.size, Nat.le_refl _, hm⟩
    · intro k hk hne
      subst hsize
      subst hby
      rcases hown.2 with ⟨rfl, _⟩ | ⟨g, cap, cur, rfl, hbg, hgc, hnc, hcm, hcs, htake⟩
      · simp [Value.ownBlock] at hk
      · have hgk : g = k := by simpa [Value.ownBlock] using hk
        subst hgk
        by_cases hroom : n + m ≤ cap
        · have hfit : n * i.size + news.length ≤ cur.size := by rw [hl, hcs, ← Nat.add_mul]; exact Nat.mul_le_mul_right _ hroom
          have hr2 := run_append_room (P := Try.prog) w t ty e i ht hi g n cap cur hgc ad m c news hl hcell h1 hroom hfit
          rw [hr] at hr2
          injection hr2 with hv hw
          injection hv with hv1
          subst hv1
          exact absurd rfl hne
        · have holds : ∀ j u, xs[j]? = some u → w.cell? ((⟨g, 0, none⟩ : Addr).add j) = some u := hown.cells (g := g) rfl
          have hr2 := run_append_grow (P := Try.prog) w t ty e i z ht hi hz ⟨g, 0, none⟩ n cap xs hown.1 holds ad m c news hl hcell (by omega) (by unfold maxLen at h63; omega) (growslice_fits (by omega) hbytes)
          rw [hr] at hr2
          injection hr2 with hv hw
          subst hw
          exact Below.heap_alloc _ _ g (by have := World.ownsRow.lt hown g rfl; exact this.2)
theorem append_ints (w : World) (base : Nat) (A0 : Option Addr) (c0 : Nat) (l : List Int) (hown : OwnI w base A0 c0 l) (A : Option Addr) (c B : Nat) (m : List Int) (hnone : A = none → c = 0) (hsrc : IntsAt w B A m) (hn : l.length + m.length ≤ 1048576) (hbase : base ≤ w.heap.size) :
    ∃ a' c' w', (Builtin.append_ #[22, 22] 22 #[.slice A0 l.length c0, .slice A m.length c]).run Try.prog w = .ok (.slice a' (l ++ m).length c') w' ∧ OwnI w' base a' c' (l ++ m) ∧ w.grownBy w' (Value.slice A0 l.length c0).ownBlock ∧ Moved w (.slice A0 l.length c0) (.slice a' (l ++ m).length c') ∧ (∀ k, (Value.slice A0 l.length c0).ownBlock = some k → (Value.slice a' (l ++ m).length c').ownBlock ≠ some k → w'.heap[k]? = w.heap[k]?) := by
  obtain ⟨i0, hi0, hz0, hz1, hz2⟩ := info_parts int_info
  have := append_src w base 22 22 3 i0 (.int .i64 0) 1 8 Try.underlying22 hi0 hz0 hz1 hz2 rfl (by decide) _ l.length (intsL l) hown A m.length c (intsL m) (by rw [intsL_length, Nat.mul_one]) hnone
    (fun h0 => by
      obtain ⟨b, off, rfl, _, _⟩ := hsrc 0 h0
      refine ⟨b, off, rfl, fun j u hu => ?_⟩
      have hj : j < m.length := by have := (List.getElem?_eq_some_iff.1 hu).1; rwa [intsL_length] at this
      obtain ⟨b', off', e, _, hc⟩ := hsrc j hj
      injection e with e
      injection e with e1 e2
      subst e1 e2
      rw [intsL_at m j hj] at hu
      rw [hc, hu])
    (fun u hu => by simp only [intsL, List.mem_map] at hu; obtain ⟨k, _, rfl⟩ := hu; rfl) (by unfold maxLen; omega) (by omega) hbase
  unfold OwnI
  rw [intsL_append, List.length_append]
  exact this
theorem append_words (w : World) (base : Nat) (A0 : Option Addr) (c0 : Nat) (l : List Wd) (hown : OwnW w base A0 c0 l) (A : Option Addr) (c B : Nat) (m : List Wd) (hnone : A = none → c = 0) (hsrc : WordsAt w B A m) (hn : l.length + m.length ≤ 1048576) (hbase : base ≤ w.heap.size) :
    ∃ a' c' w', (Builtin.append_ #[23, 23] 23 #[.slice A0 l.length c0, .slice A m.length c]).run Try.prog w = .ok (.slice a' (l ++ m).length c') w' ∧ OwnW w' base a' c' (l ++ m) ∧ w.grownBy w' (Value.slice A0 l.length c0).ownBlock ∧ Moved w (.slice A0 l.length c0) (.slice a' (l ++ m).length c') ∧ (∀ k, (Value.slice A0 l.length c0).ownBlock = some k → (Value.slice a' (l ++ m).length c').ownBlock ≠ some k → w'.heap[k]? = w.heap[k]?) := by
  obtain ⟨i0, hi0, hz0, hz1, hz2⟩ := info_parts word_info
  have := append_src w base 23 23 43 i0 _ 4 32 Try.underlying23 hi0 hz0 hz1 hz2 rfl (by decide) _ l.length (wordsL l) hown A m.length c (wordsL m) (by rw [wordsL_length]) hnone
    (fun h0 => by
      obtain ⟨b, off, rfl, _, _⟩ := hsrc 0 h0
      refine ⟨b, off, rfl, fun j u hu => ?_⟩
      have hj : j < m.length * 4 := by have := (List.getElem?_eq_some_iff.1 hu).1; rwa [wordsL_length] at this
      obtain ⟨b', off', e, _, q0, q1, q2, q3⟩ := hsrc (j / 4) (by omega)
      injection e with e
      injection e with e1 e2
      subst e1 e2
      have hjj : j / 4 * 4 + j % 4 = j := by omega
      have hu' := wordsL_at m (j / 4) (by omega) (j % 4) (by omega)
      rw [hjj, hu] at hu'
      rcases (show j % 4 = 0 ∨ j % 4 = 1 ∨ j % 4 = 2 ∨ j % 4 = 3 from by omega) with h | h | h | h <;> rw [h] at hu' hjj
      · rw [show off + j = off + j / 4 * 4 from by omega, q0]; exact hu'.symm
      · rw [show off + j = off + j / 4 * 4 + 1 from by omega, q1]; exact hu'.symm
      · rw [show off + j = off + j / 4 * 4 + 2 from by omega, q2]; exact hu'.symm
      · rw [show off + j = off + j / 4 * 4 + 3 from by omega, q3]; exact hu'.symm)
    (wordsL_one m) (by unfold maxLen; omega) (by omega) hbase
  unfold OwnW
  rw [wordsL_append, List.length_append]
  exact this
end Go.Proofs.Ytoigapanhbmjlaa
