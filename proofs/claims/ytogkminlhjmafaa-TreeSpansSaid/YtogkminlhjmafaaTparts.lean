/- Parts of a graph: the lowest number handed on over all links again and again: plain theory. No program's call. -/
import Derived.Test.YtogkminlhjmafaaTspan
namespace Go.Proofs.Ytogkminlhjmafaa

/-- Both ways over each pair, at cost 1. -/
def pairE (L : List (Nat × Nat)) : List Ed := L.flatMap fun l => [⟨l.1, l.2, 0, 1⟩, ⟨l.2, l.1, 0, 1⟩]
theorem pairE_mem {L : List (Nat × Nat)} {e : Ed} : e ∈ pairE L ↔ ∃ l ∈ L, e = ⟨l.1, l.2, 0, 1⟩ ∨ e = ⟨l.2, l.1, 0, 1⟩ := by
  unfold pairE
  rw [List.mem_flatMap]
  constructor
  · rintro ⟨l, hl, he⟩
    simp only [List.mem_cons, List.not_mem_nil, or_false] at he
    exact ⟨l, hl, he⟩
  · rintro ⟨l, hl, he⟩
    exact ⟨l, hl, by simpa only [List.mem_cons, List.not_mem_nil, or_false] using he⟩
def Pairs (n : Nat) (L : List (Nat × Nat)) : Prop := ∀ l ∈ L, l.1 < n ∧ l.2 < n ∧ l.1 ≠ l.2
theorem pair_graph {n : Nat} {L : List (Nat × Nat)} (h : Pairs n L) : Graph n (fun i => (i : Int)) (pairE L) where
  names x y _ _ e := by have e : (x : Int) = y := e; omega
  ends e he := by
    obtain ⟨l, hl, rfl | rfl⟩ := pairE_mem.1 he
    · exact h l hl
    · exact ⟨(h l hl).2.1, (h l hl).1, fun e => (h l hl).2.2 e.symm⟩
  costs e he := by
    obtain ⟨l, hl, rfl | rfl⟩ := pairE_mem.1 he <;> exact Int.le_refl _
theorem Walk.join {E : List Ed} {r x y : Nat} {c c' : Int} (h : Walk E r x c) (h' : Walk E x y c') : Walk E r y (c + c') := by
  induction h' with
  | nil => rw [Int.add_zero]; exact h
  | step _ he ih => rw [← Int.add_assoc]; exact ih.step he
theorem Walk.back {E : List Ed} (hs : ∀ e ∈ E, ∃ e' ∈ E, e'.u = e.v ∧ e'.v = e.u) {r x : Nat} {c : Int} (h : Walk E r x c) : ∃ c', Walk E x r c' := by
  induction h with
  | nil => exact ⟨0, .nil⟩
  | @step c e _ he ih =>
    obtain ⟨c', h'⟩ := ih
    obtain ⟨e', he', h1, h2⟩ := hs e he
    have s : Walk E e.v e'.v (0 + e'.cost) := by
      have := (Walk.nil (E := E) (r := e'.u)).step he'
      rwa [h1] at this
    rw [h2] at s
    exact ⟨_, s.join h'⟩
theorem pair_back {L : List (Nat × Nat)} : ∀ e ∈ pairE L, ∃ e' ∈ pairE L, e'.u = e.v ∧ e'.v = e.u := fun e he => by
  obtain ⟨l, hl, rfl | rfl⟩ := pairE_mem.1 he
  · exact ⟨_, pairE_mem.2 ⟨l, hl, .inr rfl⟩, rfl, rfl⟩
  · exact ⟨_, pairE_mem.2 ⟨l, hl, .inl rfl⟩, rfl, rfl⟩
def pstep (f : Nat → Nat) (l : Nat × Nat) : Nat → Nat := fun x => if x = l.1 ∨ x = l.2 then min (f l.1) (f l.2) else f x
def psweep (L : List (Nat × Nat)) (f : Nat → Nat) : Nat → Nat := L.foldl pstep f
def psweeps (L : List (Nat × Nat)) : Nat → Nat → Nat
  | 0 => fun x => x
  | k + 1 => psweep L (psweeps L k)
theorem pstep_le (f : Nat → Nat) (l : Nat × Nat) (x : Nat) : pstep f l x ≤ f x := by
  unfold pstep
  by_cases c : x = l.1 ∨ x = l.2
  · rw [if_pos c]
    rcases c with rfl | rfl <;> omega
  · rw [if_neg c]
    exact Nat.le_refl _
/-- What x has comes from somewhere that leads to it. -/
def PReal (n : Nat) (L : List (Nat × Nat)) (f : Nat → Nat) : Prop := ∀ x, x < n → f x < n ∧ ∃ c, Walk (pairE L) (f x) x c
theorem preal_step {n : Nat} {L : List (Nat × Nat)} (hL : Pairs n L) {f : Nat → Nat} (h : PReal n L f) {l : Nat × Nat} (hl : l ∈ L) : PReal n L (pstep f l) := fun x hx => by
  unfold pstep
  by_cases c : x = l.1 ∨ x = l.2
  · rw [if_pos c]
    obtain ⟨h1, h2, _⟩ := hL l hl
    obtain ⟨a1, c1, w1⟩ := h l.1 h1
    obtain ⟨a2, c2, w2⟩ := h l.2 h2
    have e1 : (⟨l.1, l.2, 0, 1⟩ : Ed) ∈ pairE L := pairE_mem.2 ⟨l, hl, .inl rfl⟩
    have e2 : (⟨l.2, l.1, 0, 1⟩ : Ed) ∈ pairE L := pairE_mem.2 ⟨l, hl, .inr rfl⟩
    rcases Nat.le_total (f l.1) (f l.2) with hle | hle
    · rw [Nat.min_eq_left hle]
      rcases c with rfl | rfl
      · exact ⟨a1, _, w1⟩
      · exact ⟨a1, _, Walk.step (e := ⟨l.1, l.2, 0, 1⟩) w1 e1⟩
    · rw [Nat.min_eq_right hle]
      rcases c with rfl | rfl
      · exact ⟨a2, _, Walk.step (e := ⟨l.2, l.1, 0, 1⟩) w2 e2⟩
      · exact ⟨a2, _, w2⟩
  · rw [if_neg c]
    exact h x hx
theorem pfold_keep {L : List (Nat × Nat)} {P : (Nat → Nat) → Prop} (hP : ∀ f l, l ∈ L → P f → P (pstep f l)) (M : List (Nat × Nat)) (hM : ∀ l ∈ M, l ∈ L) (f : Nat → Nat) (h : P f) : P (M.foldl pstep f) := by
  induction M generalizing f with
  | nil => exact h
  | cons a M ih => exact ih (fun l hl => hM l (List.mem_cons_of_mem _ hl)) _ (hP f a (hM a List.mem_cons_self) h)
theorem preal_sweeps {n : Nat} {L : List (Nat × Nat)} (hL : Pairs n L) (k : Nat) : PReal n L (psweeps L k) := by
  induction k with
  | zero => exact fun x hx => ⟨hx, 0, .nil⟩
  | succ k ih => exact pfold_keep (P := PReal n L) (fun f l hl h => preal_step hL h hl) L (fun _ hl => hl) _ ih
theorem preal_low {n : Nat} {L : List (Nat × Nat)} {f : Nat → Nat} (h : PReal n L f) {x r : Nat} {d : Int} (hx : x < n) (hl : Least n (fun i => (i : Int)) (pairE L) x r d) : r ≤ f x := by
  obtain ⟨h1, c, hw⟩ := h x hx
  have h2 : (r : Int) ≤ (f x : Int) := hl.least (f x) c h1 hw
  omega
theorem pfin_keep {n : Nat} {L : List (Nat × Nat)} (hL : Pairs n L) {f : Nat → Nat} (hf : PReal n L f) {x r : Nat} {d : Int} (hx : x < n) (hl : Least n (fun i => (i : Int)) (pairE L) x r d) (h : f x = r) (M : List (Nat × Nat)) (hM : ∀ l ∈ M, l ∈ L) : M.foldl pstep f x = r :=
  (pfold_keep (L := L) (P := fun g => PReal n L g ∧ g x = r) (fun g l hl' hg => by
    have h1 := preal_step hL hg.1 hl'
    have h2 := preal_low h1 hx hl
    have h3 := pstep_le g l x
    exact ⟨h1, by have := hg.2; omega⟩) M hM f ⟨hf, h⟩).2
/-- Within as many rounds as there are numbers each has the lowest of its part. -/
theorem pfin_all {n : Nat} {L : List (Nat × Nat)} (hL : Pairs n L) (k : Nat) : ∀ x, x < n → ∀ r d, Least n (fun i => (i : Int)) (pairE L) x r d → rk n (fun i => (i : Int)) (pairE L) r d ≤ k → psweeps L k x = r := by
  have G := pair_graph hL
  have hroot : ∀ k x d, x < n → Least n (fun i => (i : Int)) (pairE L) x x d → psweeps L k x = x := fun k => by
    induction k with
    | zero => intro x d _ _; rfl
    | succ k ih => intro x d hx hl; exact pfin_keep hL (preal_sweeps hL k) hx hl (ih x d hx hl) L fun _ h => h
  have hlast : ∀ x r d, x < n → x ≠ r → Least n (fun i => (i : Int)) (pairE L) x r d → ∃ e ∈ pairE L, e.v = x ∧ ∃ d', Least n (fun i => (i : Int)) (pairE L) e.u r d' ∧ rk n (fun i => (i : Int)) (pairE L) r d' < rk n (fun i => (i : Int)) (pairE L) r d := fun x r d hx hne hl => by
    rcases hl.walk.last with ⟨h, _⟩ | ⟨e, he, hv, hw⟩
    · exact absurd h hne
    · subst hv
      obtain ⟨r2, d2, hl2⟩ := least_is G (G.ends e he).1
      have e1 : (r2 : Int) ≤ (r : Int) := hl2.least r _ hl.in_ hw
      have e2 : (r : Int) ≤ (r2 : Int) := hl.least r2 _ hl2.in_ (hl2.walk.step he)
      have hrr : r2 = r := by omega
      subst hrr
      have e3 := hl2.short _ hw
      exact ⟨e, he, rfl, d2, hl2, rk_lt G (G.ends e he).1 hl2 (by have := G.costs e he; omega)⟩
  induction k with
  | zero =>
    intro x hx r d hl hk
    by_cases e : x = r
    · subst e; rfl
    · obtain ⟨_, _, _, _, _, h⟩ := hlast x r d hx e hl
      omega
  | succ k ih =>
    intro x hx r d hl hk
    by_cases e : x = r
    · subst e
      exact hroot _ _ _ hx hl
    · obtain ⟨e', he, hv, d', hl', hrk⟩ := hlast x r d hx e hl
      subst hv
      have hu := ih e'.u (G.ends e' he).1 r d' hl' (by omega)
      have hreal := preal_sweeps hL k
      have hfin : PReal n L (psweeps L (k + 1)) := preal_sweeps hL (k + 1)
      have hlow := preal_low hfin hx hl
      -- the round comes by this pair
      have hpair : ∃ l ∈ L, (l.1 = e'.u ∧ l.2 = e'.v) ∨ (l.2 = e'.u ∧ l.1 = e'.v) := by
        obtain ⟨l, hlL, rfl | rfl⟩ := pairE_mem.1 he
        · exact ⟨l, hlL, .inl ⟨rfl, rfl⟩⟩
        · exact ⟨l, hlL, .inr ⟨rfl, rfl⟩⟩
      obtain ⟨l, hlL, hor⟩ := hpair
      obtain ⟨M1, M2, hM⟩ := List.append_of_mem hlL
      have hM1 : ∀ q ∈ M1, q ∈ L := fun q hq => by rw [hM]; exact List.mem_append_left _ hq
      have hM2 : ∀ q ∈ M2, q ∈ L := fun q hq => by rw [hM]; exact List.mem_append_right _ (List.mem_cons_of_mem _ hq)
      have hu1 : M1.foldl pstep (psweeps L k) e'.u = r := pfin_keep hL hreal (G.ends e' he).1 hl' hu M1 hM1
      have hr1 : PReal n L (M1.foldl pstep (psweeps L k)) := pfold_keep (P := PReal n L) (fun f l hl h => preal_step hL h hl) M1 hM1 _ hreal
      have hv1 : pstep (M1.foldl pstep (psweeps L k)) l e'.v = r := by
        have h2 := preal_low (preal_step hL hr1 hlL) hx hl
        have h3 : pstep (M1.foldl pstep (psweeps L k)) l e'.v ≤ M1.foldl pstep (psweeps L k) e'.u := by
          unfold pstep
          rcases hor with ⟨h1, h2⟩ | ⟨h1, h2⟩
          · rw [if_pos (.inr h2.symm), h1]; omega
          · rw [if_pos (.inl h2.symm), h1]; omega
        omega
      have hall : psweeps L (k + 1) e'.v = M2.foldl pstep (pstep (M1.foldl pstep (psweeps L k)) l) e'.v := by
        have h9 : ∀ g : Nat → Nat, L.foldl pstep g e'.v = M2.foldl pstep (pstep (M1.foldl pstep g) l) e'.v := fun g => by rw [hM, List.foldl_append, List.foldl_cons]
        exact h9 _
      rw [hall]
      exact pfin_keep hL (preal_step hL hr1 hlL) hx hl hv1 M2 hM2
theorem pfin_n {n : Nat} {L : List (Nat × Nat)} (hL : Pairs n L) {x : Nat} (hx : x < n) : ∃ d, Least n (fun i => (i : Int)) (pairE L) x (psweeps L n x) d := by
  obtain ⟨r, d, hl⟩ := least_is (pair_graph hL) hx
  have := pfin_all hL n x hx r d hl (Nat.le_of_lt (rk_n (pair_graph hL) hx hl))
  rw [this]
  exact ⟨d, hl⟩
end Go.Proofs.Ytogkminlhjmafaa
