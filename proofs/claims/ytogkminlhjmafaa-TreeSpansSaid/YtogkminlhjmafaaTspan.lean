/- Of what all hold when all stands: one way leads to each bridge that isn't the root of its part, and these ways join all that all ways join: plain theory. No program's call. -/
import Derived.Test.YtogkminlhjmafaaTgraph
namespace Go.Proofs.Ytogkminlhjmafaa

/-- A way over which its far end holds the root. -/
def leadsE (ids : Nat → Int) (f : Nat → Vec) (e : Ed) : Prop := f e.v = candE ids f e ∧ (f e.u).root < ids e.v
instance (ids : Nat → Int) (f : Nat → Vec) (e : Ed) : Decidable (leadsE ids f e) := by unfold leadsE; infer_instance
/-- Each port is at one way. -/
def PortsE (E : List Ed) : Prop := ∀ e ∈ E, ∀ e' ∈ E, e.u = e'.u → e.port = e'.port → e = e'
theorem leads_one {n : Nat} {ids : Nat → Int} {E : List Ed} (G : Graph n ids E) (hp : PortsE E) {f : Nat → Vec} {e e' : Ed} (he : e ∈ E) (he' : e' ∈ E) (hv : e.v = e'.v) (h : leadsE ids f e) (h' : leadsE ids f e') : e = e' := by
  have h1 := h.1
  rw [hv, h'.1] at h1
  unfold candE at h1
  injection h1 with _ _ h3 h4
  exact hp e he e' he' (G.names _ _ (G.ends e he).1 (G.ends e' he').1 h3.symm) h4.symm
theorem leads_is {n : Nat} {ids : Nat → Int} {E : List Ed} (G : Graph n ids E) {k : Nat} (hk : n ≤ k) {x r : Nat} {d : Int} (hx : x < n) (hl : Least n ids E x r d) (hne : x ≠ r) : ∃ e ∈ E, e.v = x ∧ leadsE ids (sweeps ids E k) e ∧ Least n ids E e.u r (d - e.cost) := by
  obtain ⟨e, he, hv, hs, hu, hlt⟩ := lead G hk hx hl hne
  refine ⟨e, he, hv, ?_, hu⟩
  subst hv
  obtain ⟨r2, d2, hl2, h1, h2, _⟩ := fin_n G hk (G.ends e he).1
  obtain ⟨rfl, hd⟩ := least_one G hu hl2
  unfold leadsE candE
  rw [hs, h1, h2, ← hd]
  exact ⟨by rw [show d - e.cost + e.cost = d by omega], hlt⟩
theorem leads_not {n : Nat} {ids : Nat → Int} {E : List Ed} (G : Graph n ids E) {k : Nat} (hk : n ≤ k) {x : Nat} {d : Int} (hl : Least n ids E x x d) {e : Ed} (hv : e.v = x) : ¬ leadsE ids (sweeps ids E k) e := by
  subst hv
  rintro ⟨h1, h2⟩
  obtain ⟨r2, d2, hl2, h3, _, _⟩ := fin_n G hk hl.in_
  obtain ⟨rfl, _⟩ := least_one G hl hl2
  rw [h1] at h3
  have h3 : (sweeps ids E k e.u).root = ids e.v := h3
  omega
/-- A way that leads, and its way back, don't lead both. -/
theorem leads_back {n : Nat} {ids : Nat → Int} {E : List Ed} (G : Graph n ids E) {f : Nat → Vec} {e e' : Ed} (he : e ∈ E) (he' : e' ∈ E) (h1 : e'.u = e.v) (h2 : e'.v = e.u) (h : leadsE ids f e) : ¬ leadsE ids f e' := by
  rintro ⟨k1, _⟩
  have k2 := h.1
  rw [h2] at k1
  have e1 : (f e.u).cost = (f e'.u).cost + e'.cost := by rw [k1]; rfl
  have e2 : (f e.v).cost = (f e.u).cost + e.cost := by rw [k2]; rfl
  rw [h1] at e1
  have := G.costs e he
  have := G.costs e' he'
  omega
/-- The ways that lead. -/
def treeE (ids : Nat → Int) (f : Nat → Vec) (E : List Ed) : List Ed := E.filter fun e => decide (leadsE ids f e)
theorem walk_mono {E E' : List Ed} (h : ∀ e ∈ E, e ∈ E') {r x : Nat} {c : Int} (hw : Walk E r x c) : Walk E' r x c := by
  induction hw with
  | nil => exact .nil
  | step _ he ih => exact ih.step (h _ he)
/-- From the root of its part a way of them leads to each bridge. -/
theorem tree_walk {n : Nat} {ids : Nat → Int} {E : List Ed} (G : Graph n ids E) {k : Nat} (hk : n ≤ k) : ∀ (m : Nat) (x r : Nat) (d : Int), d ≤ m → x < n → Least n ids E x r d → Walk (treeE ids (sweeps ids E k) E) r x d := by
  intro m
  induction m with
  | zero =>
    intro x r d hd hx hl
    by_cases e : x = r
    · subst e
      have h0 := hl.short 0 .nil
      have h1 := (hl.walk.in_ G hl.in_).2
      rw [show d = 0 by omega]
      exact .nil
    · obtain ⟨e', he, hv, hle, hu⟩ := leads_is G hk hx hl e
      have h1 := (hu.walk.in_ G hu.in_).2
      have h2 := G.costs e' he
      omega
  | succ m ih =>
    intro x r d hd hx hl
    by_cases e : x = r
    · subst e
      have h0 := hl.short 0 .nil
      have h1 := (hl.walk.in_ G hl.in_).2
      rw [show d = 0 by omega]
      exact .nil
    · obtain ⟨e', he, hv, hle, hu⟩ := leads_is G hk hx hl e
      have h2 := G.costs e' he
      have hw := ih e'.u r (d - e'.cost) (by omega) (G.ends e' he).1 hu
      have := hw.step (List.mem_filter.2 ⟨he, decide_eq_true hle⟩ : e' ∈ treeE ids (sweeps ids E k) E)
      rw [show d - e'.cost + e'.cost = d by omega, hv] at this
      exact this
theorem tree_least {n : Nat} {ids : Nat → Int} {E : List Ed} (G : Graph n ids E) {k : Nat} (hk : n ≤ k) {x r : Nat} {d : Int} (hx : x < n) (hl : Least n ids E x r d) : Walk (treeE ids (sweeps ids E k) E) r x d := by
  have h1 := (hl.walk.in_ G hl.in_).2
  exact tree_walk G hk d.toNat x r d (by omega) hx hl
/-- Injective from one list without doubles into another: it isn't longer. -/
theorem inj_len {α β : Type} [DecidableEq β] (g : α → β) : ∀ (L : List α) (M : List β), L.Nodup → (∀ a ∈ L, g a ∈ M) → (∀ a ∈ L, ∀ b ∈ L, g a = g b → a = b) → L.length ≤ M.length
  | [], _, _, _, _ => Nat.zero_le _
  | a :: L, M, hn, hm, hi => by
    obtain ⟨h1, h2⟩ := List.nodup_cons.1 hn
    have ha := hm a List.mem_cons_self
    have := inj_len g L (M.erase (g a)) h2 (fun b hb => by
      refine (List.mem_erase_of_ne fun e => ?_).2 (hm b (List.mem_cons_of_mem _ hb))
      have := hi b (List.mem_cons_of_mem _ hb) a List.mem_cons_self e
      subst this
      exact h1 hb) (fun b hb c hc e => hi b (List.mem_cons_of_mem _ hb) c (List.mem_cons_of_mem _ hc) e)
    rw [List.length_erase_of_mem ha] at this
    have hpos := List.length_pos_of_mem ha
    simp only [List.length_cons]
    omega
end Go.Proofs.Ytogkminlhjmafaa
