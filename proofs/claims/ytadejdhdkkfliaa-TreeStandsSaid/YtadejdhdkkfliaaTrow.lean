/- What the rows of links come to, one link behind the other: plain theory for the walks of the document's tree. No program's call, no condition but those that are said. -/
import Derived.Test.YtadejdhdkkfliaaTsys
namespace Go.Proofs.Ytadejdhdkkfliaa
section
variable {n : Nat} {ids : Nat → Int} {L : List Lk}

/- No port twice. -/
def UsedIn (L : List Lk) (x : Nat) (p : Int) : Prop := ∃ l ∈ L, (l.a = x ∧ l.pa = p) ∨ (l.b = x ∧ l.pb = p)
theorem used_nil (x : Nat) (p : Int) : ¬ UsedIn [] x p := fun ⟨_, h, _⟩ => by cases h
theorem used_snoc (L : List Lk) (l : Lk) (x : Nat) (p : Int) : UsedIn (L ++ [l]) x p ↔ UsedIn L x p ∨ (l.a = x ∧ l.pa = p) ∨ (l.b = x ∧ l.pb = p) := by
  unfold UsedIn
  constructor
  · rintro ⟨m, hm, h⟩
    rcases List.mem_append.1 hm with hm | hm
    · exact .inl ⟨m, hm, h⟩
    · obtain rfl : m = l := by simpa using hm
      exact .inr h
  · rintro (⟨m, hm, h⟩ | h)
    · exact ⟨m, List.mem_append_left _ hm, h⟩
    · exact ⟨l, by simp, h⟩
theorem off_snoc {l : Lk} (h : L.Pairwise Off) (h1 : ¬ UsedIn L l.a l.pa) (h2 : ¬ UsedIn L l.b l.pb) : (L ++ [l]).Pairwise Off := by
  refine List.pairwise_append.2 ⟨h, List.pairwise_singleton _ _, fun m hm l' hl' => ?_⟩
  obtain rfl : l' = l := by simpa using hl'
  exact ⟨fun e => h1 ⟨m, hm, .inl e⟩, fun e => h2 ⟨m, hm, .inl e⟩, fun e => h1 ⟨m, hm, .inr e⟩, fun e => h2 ⟨m, hm, .inr e⟩⟩
/-- Of several ports with one vector none is lower: there aren't several. -/
theorem no_lower (F : Fits n ids L) {d : Dl} (hd : d ∈ dirs L) {l : Lk} (hl : l ∈ L) : ¬ (l.a = d.v ∧ l.b = d.u ∧ l.pb = d.pu ∧ l.pa < d.pv) ∧ ¬ (l.b = d.v ∧ l.a = d.u ∧ l.pa = d.pu ∧ l.pb < d.pv) := by
  constructor
  · rintro ⟨_, h2, h3, h4⟩
    have := dirs_from F (mem_dirs.2 ⟨l, hl, .inr rfl⟩) hd h2 h3
    subst this
    have h4 : l.pa < l.pa := h4
    omega
  · rintro ⟨_, h2, h3, h4⟩
    have := dirs_from F (mem_dirs.2 ⟨l, hl, .inl rfl⟩) hd h2 h3
    subst this
    have h4 : l.pb < l.pb := h4
    omega

/- Going over the links, the first k of them. -/
def foldK (ids : Nat → Int) (L : List Lk) (k : Nat) (f : Nat → Vec) : Nat → Vec := (linkE (L.take k)).foldl (relax ids) f
theorem linkE_append (L M : List Lk) : linkE (L ++ M) = linkE L ++ linkE M := by simp [linkE]
theorem foldK_zero (ids : Nat → Int) (L : List Lk) (f : Nat → Vec) : foldK ids L 0 f = f := rfl
theorem foldK_succ (ids : Nat → Int) (L : List Lk) (k : Nat) (h : k < L.length) (f : Nat → Vec) : foldK ids L (k + 1) f = relax ids (relax ids (foldK ids L k f) L[k].e1) L[k].e2 := by
  unfold foldK
  rw [List.take_succ_eq_append_getElem h, linkE_append, List.foldl_append]
  rfl
theorem foldK_all (ids : Nat → Int) (L : List Lk) (f : Nat → Vec) : foldK ids L L.length f = sweep ids (linkE L) f := by
  unfold foldK sweep
  rw [List.take_length]
/-- Costs so far. -/
def CostIn (n : Nat) (c : Int) (f : Nat → Vec) : Prop := ∀ x, x < n → 0 ≤ (f x).cost ∧ (f x).cost ≤ c
theorem costIn_relax {c : Int} {f : Nat → Vec} (h : CostIn n c f) {e : Ed} (hu : e.u < n) (he : 0 ≤ e.cost) (he' : e.cost ≤ 1048576) : CostIn n (c + 1048576) (relax ids f e) := fun x hx => by
  unfold relax
  have h1 := h x hx
  have h2 := h e.u hu
  split
  · show 0 ≤ (f e.u).cost + e.cost ∧ (f e.u).cost + e.cost ≤ _
    omega
  · omega
theorem costIn_own (n : Nat) (ids : Nat → Int) : CostIn n 0 (own0 ids) := fun _ _ => ⟨Int.le_refl _, Int.le_refl _⟩
theorem costIn_foldK (K : Big n ids L) {c : Int} {f : Nat → Vec} (h : CostIn n c f) (k : Nat) (hk : k ≤ L.length) : CostIn n (c + k * 2097152) (foldK ids L k f) := by
  induction k with
  | zero => intro x hx; have := h x hx; rw [foldK_zero]; exact ⟨this.1, by omega⟩
  | succ k ih =>
    have ih := ih (by omega)
    have hm : L[k] ∈ L := List.getElem_mem _
    obtain ⟨e1, e2, _⟩ := K.fits.ends _ hm
    obtain ⟨c1, c2⟩ := K.fits.costs _ hm
    obtain ⟨d1, d2⟩ := K.cheap _ hm
    rw [foldK_succ ids L k (by omega)]
    have h1 := costIn_relax (ids := ids) ih (e := L[k].e1) e1 (by show 0 ≤ L[k].cb; omega) d2
    have h2 := costIn_relax (ids := ids) h1 (e := L[k].e2) e2 (by show 0 ≤ L[k].ca; omega) d1
    intro x hx
    have := h2 x hx
    exact ⟨this.1, by omega⟩
theorem costIn_sweeps (K : Big n ids L) (hL : L.length ≤ 16) (k : Nat) : CostIn n (k * 33554432) (sweeps ids (linkE L) k) := by
  induction k with
  | zero => intro x hx; exact ⟨Int.le_refl _, by show (0 : Int) ≤ _; omega⟩
  | succ k ih =>
    have h := costIn_foldK K ih L.length (Nat.le_refl _)
    rw [foldK_all] at h
    intro x hx
    have := h x hx
    show 0 ≤ (sweep ids (linkE L) (sweeps ids (linkE L) k) x).cost ∧ (sweep ids (linkE L) (sweeps ids (linkE L) k) x).cost ≤ _
    exact ⟨this.1, by have h2 := this.2; omega⟩
theorem real_foldK (F : Fits n ids L) {f : Nat → Vec} (h : Real n ids (linkE L) f) (k : Nat) : Real n ids (linkE L) (foldK ids L k f) := by
  refine fold_keep (P := Real n ids (linkE L)) (fun f e he h => real_relax F.graph h he) _ (fun e he => ?_) f h
  obtain ⟨l, hl, h⟩ := linkE_mem.1 he
  exact linkE_mem.2 ⟨l, List.mem_of_mem_take hl, h⟩

/- Parts, the first k links. -/
def pfoldK (L : List (Nat × Nat)) (k : Nat) (f : Nat → Nat) : Nat → Nat := (L.take k).foldl pstep f
theorem pfoldK_zero (L : List (Nat × Nat)) (f : Nat → Nat) : pfoldK L 0 f = f := rfl
theorem pfoldK_succ (L : List (Nat × Nat)) (k : Nat) (h : k < L.length) (f : Nat → Nat) : pfoldK L (k + 1) f = pstep (pfoldK L k f) L[k] := by
  unfold pfoldK
  rw [List.take_succ_eq_append_getElem h, List.foldl_append]
  rfl
theorem pfoldK_all (L : List (Nat × Nat)) (f : Nat → Nat) : pfoldK L L.length f = psweep L f := by
  unfold pfoldK psweep
  rw [List.take_length]
/-- The same over links of which some are passed over. -/
def pfoldS (L : List Lk) (s : List Bool) (k : Nat) (f : Nat → Nat) : Nat → Nat := (((L.zip s).take k).filter fun q => q.2).foldl (fun g q => pstep g (q.1.a, q.1.b)) f
theorem pfoldS_zero (L : List Lk) (s : List Bool) (f : Nat → Nat) : pfoldS L s 0 f = f := rfl
theorem pfoldS_succ (L : List Lk) (s : List Bool) (k : Nat) (h : k < L.length) (h' : k < s.length) (f : Nat → Nat) : pfoldS L s (k + 1) f = if s[k] = true then pstep (pfoldS L s k f) (L[k].a, L[k].b) else pfoldS L s k f := by
  unfold pfoldS
  rw [List.take_succ_eq_append_getElem (by simp; omega), List.filter_append, List.foldl_append, List.getElem_zip]
  by_cases c : s[k] = true
  · rw [if_pos c, List.filter_cons, if_pos c]; rfl
  · rw [if_neg c, List.filter_cons, if_neg c]; rfl
theorem pfoldS_all (L : List Lk) (p : Lk → Bool) (f : Nat → Nat) : pfoldS L (L.map p) L.length f = psweep (pairsOf (L.filter p)) f := by
  unfold pfoldS psweep pairsOf
  rw [List.take_of_length_le (by simp), List.foldl_map]
  induction L generalizing f with
  | nil => rfl
  | cons a L ih =>
    rw [List.map_cons, List.zip_cons_cons, List.filter_cons, List.filter_cons]
    by_cases c : p a = true
    · rw [if_pos c, if_pos c, List.foldl_cons, List.foldl_cons]
      exact ih _
    · rw [if_neg c, if_neg c]
      exact ih _
theorem pstep_lt {f : Nat → Nat} (h : ∀ x, x < n → f x < n) {q : Nat × Nat} (h1 : q.1 < n) (h2 : q.2 < n) : ∀ x, x < n → pstep f q x < n := fun x hx => by
  unfold pstep
  have a1 := h _ h1
  have a2 := h _ h2
  split
  · omega
  · exact h x hx
end
end Go.Proofs.Ytadejdhdkkfliaa
