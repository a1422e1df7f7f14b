/- Joined texts. Conditions: those that each names. -/
import Derived.Test.YtadejdhdkkfliaaVcmp
namespace Go.Proofs.Ytadejdhdkkfliaa
section
/- Ways in a graph, and what going over all of them again and again comes to: plain theory for the tree. No program's call, no condition but those that are said. -/
/-- One way round a link: what u holds is heard at v. -/
structure Ed where
  u : Nat
  v : Nat
  port : Int
  cost : Int
/-- What is heard over it. -/
def candE (ids : Nat → Int) (f : Nat → Vec) (e : Ed) : Vec := ⟨(f e.u).root, (f e.u).cost + e.cost, ids e.u, e.port⟩
def takesE (ids : Nat → Int) (f : Nat → Vec) (e : Ed) : Prop := (f e.u).root < ids e.v ∧ ltV (candE ids f e) (f e.v)
instance (ids : Nat → Int) (f : Nat → Vec) (e : Ed) : Decidable (takesE ids f e) := by unfold takesE; infer_instance
def relax (ids : Nat → Int) (f : Nat → Vec) (e : Ed) : Nat → Vec := fun x => if x = e.v ∧ takesE ids f e then candE ids f e else f x
def sweep (ids : Nat → Int) (E : List Ed) (f : Nat → Vec) : Nat → Vec := E.foldl (relax ids) f
def own0 (ids : Nat → Int) : Nat → Vec := fun x => ⟨ids x, 0, ids x, 0⟩
def sweeps (ids : Nat → Int) (E : List Ed) : Nat → Nat → Vec
  | 0 => own0 ids
  | k + 1 => sweep ids E (sweeps ids E k)
/-- A way from r to x of that cost. -/
inductive Walk (E : List Ed) (r : Nat) : Nat → Int → Prop
  | nil : Walk E r r 0
  | step {c : Int} {e : Ed} : Walk E r e.u c → e ∈ E → Walk E r e.v (c + e.cost)
/-- Bridges 0 to n - 1 with names of their own, ways of cost 1 or more. -/
structure Graph (n : Nat) (ids : Nat → Int) (E : List Ed) : Prop where
  names : ∀ x y, x < n → y < n → ids x = ids y → x = y
  ends : ∀ e ∈ E, e.u < n ∧ e.v < n ∧ e.u ≠ e.v
  costs : ∀ e ∈ E, 1 ≤ e.cost
theorem Walk.in_ {n : Nat} {ids : Nat → Int} {E : List Ed} (G : Graph n ids E) {r x : Nat} {c : Int} (h : Walk E r x c) (hr : r < n) : x < n ∧ 0 ≤ c := by
  induction h with
  | nil => exact ⟨hr, Int.le_refl _⟩
  | step h he ih =>
    have := G.costs _ he
    exact ⟨(G.ends _ he).2.1, by omega⟩
/-- What is held comes from somewhere, over a way of its cost. -/
def Real (n : Nat) (ids : Nat → Int) (E : List Ed) (f : Nat → Vec) : Prop :=
  ∀ x, x < n → ∃ r, r < n ∧ Walk E r x (f x).cost ∧ (f x).root = ids r ∧ (f x = own0 ids x ∨ (f x).root < ids x ∧ ∃ e ∈ E, e.v = x ∧ Walk E r e.u ((f x).cost - e.cost) ∧ (f x).bridge = ids e.u ∧ (f x).port = e.port)
theorem real_own {n : Nat} {ids : Nat → Int} {E : List Ed} : Real n ids E (own0 ids) := fun x hx => ⟨x, hx, .nil, rfl, .inl rfl⟩
theorem real_relax {n : Nat} {ids : Nat → Int} {E : List Ed} (G : Graph n ids E) {f : Nat → Vec} (h : Real n ids E f) {e : Ed} (he : e ∈ E) : Real n ids E (relax ids f e) := fun x hx => by
  unfold relax
  by_cases c : x = e.v ∧ takesE ids f e
  · rw [if_pos c]
    obtain ⟨rfl, ht⟩ := c
    obtain ⟨r, hr, hw, hroot, _⟩ := h e.u (G.ends e he).1
    exact ⟨r, hr, hw.step he, hroot, .inr ⟨ht.1, e, he, rfl, by rw [show (candE ids f e).cost - e.cost = (f e.u).cost from Int.add_sub_cancel _ _]; exact hw, rfl, rfl⟩⟩
  · rw [if_neg c]
    exact h x hx
/-- Not worse. -/
def leV (a b : Vec) : Prop := ¬ ltV b a
theorem leV_refl (a : Vec) : leV a a := ltV_irrefl a
theorem leV.trans {a b c : Vec} (h : leV a b) (h' : leV b c) : leV a c := leV_trans h h'
theorem relax_le (ids : Nat → Int) (f : Nat → Vec) (e : Ed) (x : Nat) : leV (relax ids f e x) (f x) := by
  unfold relax
  by_cases c : x = e.v ∧ takesE ids f e
  · rw [if_pos c]
    obtain ⟨rfl, ht⟩ := c
    unfold leV
    intro h
    exact ltV_irrefl _ (ltV_trans h ht.2)
  · rw [if_neg c]
    exact leV_refl _
/-- Facts that hold of all rows of ways one has gone over. -/
theorem fold_keep {ids : Nat → Int} {E : List Ed} {P : (Nat → Vec) → Prop} (hP : ∀ f e, e ∈ E → P f → P (relax ids f e)) (L : List Ed) (hL : ∀ e ∈ L, e ∈ E) (f : Nat → Vec) (h : P f) : P (L.foldl (relax ids) f) := by
  induction L generalizing f with
  | nil => exact h
  | cons a L ih =>
    exact ih (fun e he => hL e (List.mem_cons_of_mem _ he)) _ (hP f a (hL a List.mem_cons_self) h)
theorem real_sweeps {n : Nat} {ids : Nat → Int} {E : List Ed} (G : Graph n ids E) (k : Nat) : Real n ids E (sweeps ids E k) := by
  induction k with
  | zero => exact real_own
  | succ k ih => exact fold_keep (P := Real n ids E) (fun f e he h => real_relax G h he) E (fun e he => he) _ ih
/-- The least name that leads to x, and the least cost from there. -/
structure Least (n : Nat) (ids : Nat → Int) (E : List Ed) (x r : Nat) (d : Int) : Prop where
  in_ : r < n
  walk : Walk E r x d
  least : ∀ r' c, r' < n → Walk E r' x c → ids r ≤ ids r'
  short : ∀ c, Walk E r x c → d ≤ c
theorem least_nat (p : Nat → Prop) (h : ∃ k, p k) : ∃ k, p k ∧ ∀ j, p j → k ≤ j := by
  obtain ⟨k, hk⟩ := h
  induction k using Nat.strongRecOn with
  | _ k ih =>
    by_cases c : ∃ j, j < k ∧ p j
    · obtain ⟨j, hj, hp⟩ := c
      exact ih j hj hp
    · exact ⟨k, hk, fun j hp => Nat.le_of_not_lt fun hj => c ⟨j, hj, hp⟩⟩
theorem least_name (n : Nat) (ids : Nat → Int) (p : Nat → Prop) (h : ∃ r, r < n ∧ p r) : ∃ r, r < n ∧ p r ∧ ∀ r', r' < n → p r' → ids r ≤ ids r' := by
  induction n with
  | zero => obtain ⟨r, hr, _⟩ := h; omega
  | succ n ih =>
    by_cases c : ∃ r, r < n ∧ p r
    · obtain ⟨r, hr, hp, hl⟩ := ih c
      by_cases hn : p n ∧ ids n < ids r
      · exact ⟨n, by omega, hn.1, fun r' hr' hp' => by
          by_cases e : r' = n
          · subst e; exact Int.le_refl _
          · have := hl r' (by omega) hp'; omega⟩
      · exact ⟨r, by omega, hp, fun r' hr' hp' => by
          by_cases e : r' = n
          · subst e
            by_cases hlt : ids r' < ids r
            · exact absurd ⟨hp', hlt⟩ hn
            · omega
          · exact hl r' (by omega) hp'⟩
    · obtain ⟨r, hr, hp⟩ := h
      have e : r = n := by
        by_cases e : r = n
        · exact e
        · exact absurd ⟨r, by omega, hp⟩ c
      subst e
      exact ⟨r, by omega, hp, fun r' hr' hp' => by
        by_cases e : r' = r
        · subst e; exact Int.le_refl _
        · exact absurd ⟨r', by omega, hp'⟩ c⟩
theorem least_is {n : Nat} {ids : Nat → Int} {E : List Ed} (G : Graph n ids E) {x : Nat} (hx : x < n) : ∃ r d, Least n ids E x r d := by
  obtain ⟨r, hr, ⟨c, hc⟩, hl⟩ := least_name n ids (fun r => ∃ c, Walk E r x c) ⟨x, hx, 0, .nil⟩
  obtain ⟨k, hk, hm⟩ := least_nat (fun k => Walk E r x (k : Int)) ⟨c.toNat, by have := (hc.in_ G hr).2; rwa [Int.toNat_of_nonneg this]⟩
  refine ⟨r, k, hr, hk, fun r' c' hr' hw => hl r' hr' ⟨c', hw⟩, fun c' hw => ?_⟩
  have h0 := (hw.in_ G hr).2
  have := hm c'.toNat (by rwa [Int.toNat_of_nonneg h0])
  omega
/-- What is held is no better than the least. -/
theorem real_low {n : Nat} {ids : Nat → Int} {E : List Ed} (G : Graph n ids E) {f : Nat → Vec} (h : Real n ids E f) {x r : Nat} {d : Int} (hx : x < n) (hl : Least n ids E x r d) : ids r ≤ (f x).root ∧ ((f x).root = ids r → d ≤ (f x).cost) := by
  obtain ⟨r', hr', hw, hroot, _⟩ := h x hx
  refine ⟨by rw [hroot]; exact hl.least r' _ hr' hw, fun e => ?_⟩
  have : r' = r := G.names r' r hr' hl.in_ (hroot.symm.trans e)
  subst this
  exact hl.short _ hw
/-- The least of a neighbour. -/
theorem least_step {n : Nat} {ids : Nat → Int} {E : List Ed} {e : Ed} (he : e ∈ E) {r r' : Nat} {d d' : Int} (hu : Least n ids E e.u r d) (hv : Least n ids E e.v r' d') : ids r' ≤ ids r ∧ (r' = r → d' ≤ d + e.cost) := by
  refine ⟨hv.least r _ hu.in_ (hu.walk.step he), fun h => ?_⟩
  subst h
  exact hv.short _ (hu.walk.step he)
/-- A way that isn't empty comes over a last one. -/
theorem Walk.last {E : List Ed} {r x : Nat} {c : Int} (h : Walk E r x c) : (x = r ∧ c = 0) ∨ ∃ e ∈ E, e.v = x ∧ Walk E r e.u (c - e.cost) := by
  cases h with
  | nil => exact .inl ⟨rfl, rfl⟩
  | @step c e hw he => exact .inr ⟨e, he, rfl, by rw [show c + e.cost - e.cost = c by omega]; exact hw⟩
/-- What x is to hold in the end: the least name, the least cost, and of the neighbours over which that comes the best. -/
def FinV (n : Nat) (ids : Nat → Int) (E : List Ed) (x : Nat) (v : Vec) : Prop :=
  ∃ r d, Least n ids E x r d ∧ v.root = ids r ∧ v.cost = d ∧ ∀ e ∈ E, e.v = x → ids r < ids x → ∀ d', Least n ids E e.u r d' → d' + e.cost = d → leV v ⟨ids r, d, ids e.u, e.port⟩
theorem least_one {n : Nat} {ids : Nat → Int} {E : List Ed} (G : Graph n ids E) {x r r' : Nat} {d d' : Int} (h : Least n ids E x r d) (h' : Least n ids E x r' d') : r = r' ∧ d = d' := by
  have e : r = r' := G.names _ _ h.in_ h'.in_ (by have := h.least r' d' h'.in_ h'.walk; have := h'.least r d h.in_ h.walk; omega)
  subst e
  exact ⟨rfl, by have := h.short _ h'.walk; have := h'.short _ h.walk; omega⟩
/-- Who holds it goes on holding it. -/
theorem fin_relax {n : Nat} {ids : Nat → Int} {E : List Ed} (G : Graph n ids E) {f : Nat → Vec} (hf : Real n ids E f) {e : Ed} (he : e ∈ E) {x : Nat} (hx : x < n) (h : FinV n ids E x (f x)) : FinV n ids E x (relax ids f e x) := by
  obtain ⟨r, d, hl, h1, h2, h3⟩ := h
  have hle := relax_le ids f e x
  obtain ⟨l1, l2⟩ := real_low G (real_relax G hf he) hx hl
  have hroot : (relax ids f e x).root = ids r := by unfold leV ltV at hle; omega
  have hcost : (relax ids f e x).cost = d := by have := l2 hroot; unfold leV ltV at hle; omega
  exact ⟨r, d, hl, hroot, hcost, fun e' he' hv hlt d' hd' hs => hle.trans (h3 e' he' hv hlt d' hd' hs)⟩
/-- A way over which the least comes to x. -/
def OptE (n : Nat) (ids : Nat → Int) (E : List Ed) (x r : Nat) (d : Int) (e : Ed) : Prop := e.v = x ∧ ∃ d', Least n ids E e.u r d' ∧ d' + e.cost = d
theorem relax_cand (ids : Nat → Int) (f : Nat → Vec) (e : Ed) (h : (f e.u).root < ids e.v) : leV (relax ids f e e.v) (candE ids f e) := by
  unfold relax
  by_cases c : takesE ids f e
  · rw [if_pos ⟨rfl, c⟩]
    exact leV_refl _
  · rw [if_neg fun h' => c h'.2]
    exact fun hl => c ⟨h, hl⟩
theorem fold_opt {n : Nat} {ids : Nat → Int} {E : List Ed} (G : Graph n ids E) {x r : Nat} {d : Int} (hr : ids r < ids x) (L : List Ed) (hL : ∀ e ∈ L, e ∈ E) (f : Nat → Vec) (hf : Real n ids E f) (hu : ∀ e ∈ E, OptE n ids E x r d e → FinV n ids E e.u (f e.u)) :
    ∀ e ∈ L, OptE n ids E x r d e → leV (L.foldl (relax ids) f x) ⟨ids r, d, ids e.u, e.port⟩ := by
  induction L generalizing f with
  | nil => intro e he; cases he
  | cons a L ih =>
    have haE := hL a List.mem_cons_self
    have hLE : ∀ e ∈ L, e ∈ E := fun e he => hL e (List.mem_cons_of_mem _ he)
    have hf1 := real_relax G hf haE
    have hu1 : ∀ e ∈ E, OptE n ids E x r d e → FinV n ids E e.u (relax ids f a e.u) := fun e he ho => fin_relax G hf haE (G.ends e he).1 (hu e he ho)
    intro e he ho
    rcases List.mem_cons.1 he with rfl | he
    · have hmono : leV (L.foldl (relax ids) (relax ids f e) x) (relax ids f e x) :=
        fold_keep (P := fun g => leV (g x) (relax ids f e x)) (fun g e' _ h => (relax_le ids g e' x).trans h) L hLE _ (leV_refl _)
      refine hmono.trans ?_
      obtain ⟨rfl, d', hd', hs⟩ := ho
      obtain ⟨r2, d2, hl2, h1, h2, _⟩ := hu e haE ⟨rfl, d', hd', hs⟩
      obtain ⟨rfl, rfl⟩ := least_one G hd' hl2
      have := relax_cand ids f e (by rw [h1]; exact hr)
      unfold candE at this
      rw [h1, h2, hs] at this
      exact this
    · exact ih hLE _ hf1 hu1 e he ho
theorem sweep_fin {n : Nat} {ids : Nat → Int} {E : List Ed} (G : Graph n ids E) {f : Nat → Vec} (hf : Real n ids E f) {x r : Nat} {d : Int} (hx : x < n) (hl : Least n ids E x r d) (hr : ids r < ids x) (hu : ∀ e ∈ E, OptE n ids E x r d e → FinV n ids E e.u (f e.u)) :
    FinV n ids E x (sweep ids E f x) := by
  have hopt := fold_opt G hr E (fun e he => he) f hf hu
  have hreal : Real n ids E (sweep ids E f) := fold_keep (P := Real n ids E) (fun f e he h => real_relax G h he) E (fun e he => he) f hf
  -- one of them there is
  have hone : ∃ e ∈ E, OptE n ids E x r d e := by
    rcases hl.walk.last with ⟨h, _⟩ | ⟨e, he, hv, hw⟩
    · subst h; omega
    · subst hv
      obtain ⟨r2, d2, hl2⟩ := least_is G (G.ends e he).1
      have e1 := hl2.least r _ hl.in_ hw
      have e2 := hl.least r2 _ hl2.in_ (hl2.walk.step he)
      have hrr : r2 = r := G.names _ _ hl2.in_ hl.in_ (by omega)
      subst hrr
      have e3 := hl2.short _ hw
      have e4 := hl.short _ (hl2.walk.step he)
      exact ⟨e, he, rfl, d2, hl2, by omega⟩
  obtain ⟨e0, he0, ho0⟩ := hone
  have h0 := hopt e0 he0 ho0
  obtain ⟨l1, l2⟩ := real_low G hreal hx hl
  have hle : leV (sweep ids E f x) ⟨ids r, d, ids e0.u, e0.port⟩ := h0
  have hroot : (sweep ids E f x).root = ids r := by unfold leV ltV at hle; simp only at hle; omega
  have hcost : (sweep ids E f x).cost = d := by have := l2 hroot; unfold leV ltV at hle; simp only at hle; omega
  exact ⟨r, d, hl, hroot, hcost, fun e he hv _ d' hd' hs => hopt e he ⟨hv, d', hd', hs⟩⟩
theorem count_lt {p q : Nat → Bool} {L : List Nat} (h : ∀ a ∈ L, p a = true → q a = true) {a : Nat} (ha : a ∈ L) (hq : q a = true) (hp : p a = false) : L.countP p < L.countP q := by
  induction L with
  | nil => cases ha
  | cons b L ih =>
    have hle : L.countP p ≤ L.countP q := List.countP_mono_left fun x hx hpx => h x (List.mem_cons_of_mem _ hx) hpx
    rw [List.countP_cons, List.countP_cons]
    rcases List.mem_cons.1 ha with rfl | ha
    · rw [hp, hq]
      simp
      omega
    · have := ih (fun x hx => h x (List.mem_cons_of_mem _ hx)) ha
      have hb := h b List.mem_cons_self
      cases hpb : p b with
      | false => cases q b <;> simp <;> omega
      | true => rw [hb hpb]; simp; omega
open Classical in
/-- How many are nearer to r. -/ noncomputable def rk (n : Nat) (ids : Nat → Int) (E : List Ed) (r : Nat) (d : Int) : Nat := (List.range n).countP fun w => decide (∃ d', Least n ids E w r d' ∧ d' < d)
open Classical in
theorem rk_lt {n : Nat} {ids : Nat → Int} {E : List Ed} (G : Graph n ids E) {u r : Nat} {d d' : Int} (hu : u < n) (hl : Least n ids E u r d') (h : d' < d) : rk n ids E r d' < rk n ids E r d := by
  unfold rk
  refine count_lt (fun a _ ha => ?_) (List.mem_range.2 hu) ?_ ?_
  · obtain ⟨d2, h2, h3⟩ := of_decide_eq_true ha
    exact decide_eq_true ⟨d2, h2, by omega⟩
  · exact decide_eq_true ⟨d', hl, h⟩
  · refine decide_eq_false fun ⟨d2, h2, h3⟩ => ?_
    have := (least_one G hl h2).2
    omega
open Classical in
theorem rk_n {n : Nat} {ids : Nat → Int} {E : List Ed} (G : Graph n ids E) {x r : Nat} {d : Int} (hx : x < n) (hl : Least n ids E x r d) : rk n ids E r d < n := by
  have h : rk n ids E r d < (List.range n).countP fun _ => true := by
    unfold rk
    refine count_lt (fun a _ _ => rfl) (List.mem_range.2 hx) rfl ?_
    refine decide_eq_false fun ⟨d2, h2, h3⟩ => ?_
    have := (least_one G hl h2).2
    omega
  rwa [List.countP_true, List.length_range] at h
theorem fin_sweep {n : Nat} {ids : Nat → Int} {E : List Ed} (G : Graph n ids E) {f : Nat → Vec} (hf : Real n ids E f) {x : Nat} (hx : x < n) (h : FinV n ids E x (f x)) : FinV n ids E x (sweep ids E f x) :=
  (fold_keep (P := fun g => Real n ids E g ∧ FinV n ids E x (g x)) (fun _ _ he h => ⟨real_relax G h.1 he, fin_relax G h.1 he hx h.2⟩) E (fun _ he => he) f ⟨hf, h⟩).2
theorem fin_root {n : Nat} {ids : Nat → Int} {E : List Ed} (G : Graph n ids E) {x : Nat} {d : Int} (hx : x < n) (hl : Least n ids E x x d) (k : Nat) : FinV n ids E x (sweeps ids E k x) := by
  induction k with
  | zero =>
    have h0 := hl.short 0 .nil
    have h1 := (hl.walk.in_ G hl.in_).2
    exact ⟨x, d, hl, rfl, by show (0 : Int) = d; omega, fun e he hv hlt => by omega⟩
  | succ k ih => exact fin_sweep G (real_sweeps G k) hx ih
/-- All holds within as many rounds as there are bridges. -/
theorem fin_all {n : Nat} {ids : Nat → Int} {E : List Ed} (G : Graph n ids E) (k : Nat) : ∀ x, x < n → ∀ r d, Least n ids E x r d → rk n ids E r d ≤ k → FinV n ids E x (sweeps ids E k x) := by
  induction k with
  | zero =>
    intro x hx r d hl hk
    by_cases e : x = r
    · subst e
      exact fin_root G hx hl 0
    · rcases hl.walk.last with ⟨h, _⟩ | ⟨e', he, hv, hw⟩
      · exact absurd h e
      · subst hv
        obtain ⟨r2, d2, hl2⟩ := least_is G (G.ends e' he).1
        have e1 := hl2.least r _ hl.in_ hw
        have e2 := hl.least r2 _ hl2.in_ (hl2.walk.step he)
        have hrr : r2 = r := G.names _ _ hl2.in_ hl.in_ (by omega)
        subst hrr
        have e3 := hl2.short _ hw
        have e4 := hl.short _ (hl2.walk.step he)
        have := rk_lt (d := d) G (G.ends e' he).1 hl2 (by have := G.costs e' he; omega)
        omega
  | succ k ih =>
    intro x hx r d hl hk
    by_cases e : x = r
    · subst e
      exact fin_root G hx hl (k + 1)
    · have hlt : ids r < ids x := by
        have h1 := hl.least x 0 hx .nil
        have h2 : ids r ≠ ids x := fun h => e (G.names _ _ hl.in_ hx h).symm
        omega
      refine sweep_fin G (real_sweeps G k) hx hl hlt fun e' he ho => ?_
      obtain ⟨hv, d', hd', hs⟩ := ho
      have := rk_lt (d := d) G (G.ends e' he).1 hd' (by have := G.costs e' he; omega)
      exact ih e'.u (G.ends e' he).1 r d' hd' (by omega)
theorem fin_n {n : Nat} {ids : Nat → Int} {E : List Ed} (G : Graph n ids E) {k : Nat} (hk : n ≤ k) {x : Nat} (hx : x < n) : FinV n ids E x (sweeps ids E k x) := by
  obtain ⟨r, d, hl⟩ := least_is G hx
  exact fin_all G k x hx r d hl (by have := rk_n G hx hl; omega)
/-- The way over which x holds the root, when all stands. -/
theorem lead {n : Nat} {ids : Nat → Int} {E : List Ed} (G : Graph n ids E) {k : Nat} (hk : n ≤ k) {x r : Nat} {d : Int} (hx : x < n) (hl : Least n ids E x r d) (hne : x ≠ r) :
    ∃ e ∈ E, e.v = x ∧ sweeps ids E k x = ⟨ids r, d, ids e.u, e.port⟩ ∧ Least n ids E e.u r (d - e.cost) ∧ ids r < ids x := by
  obtain ⟨r2, d2, hl2, h1, h2, _⟩ := fin_n G hk hx
  obtain ⟨rfl, rfl⟩ := least_one G hl hl2
  have hlt : ids r < ids x := by
    have h3 := hl.least x 0 hx .nil
    have h4 : ids r ≠ ids x := fun h => hne (G.names _ _ hl.in_ hx h).symm
    omega
  obtain ⟨r3, hr3, _, hroot, hor⟩ := real_sweeps G k x hx
  have e3 : r3 = r := G.names _ _ hr3 hl.in_ (hroot.symm.trans h1)
  subst e3
  rcases hor with h | ⟨_, e, he, hv, hw, hb, hp⟩
  · rw [h] at h1
    have h1 : ids x = ids r3 := h1
    omega
  · subst hv
    refine ⟨e, he, rfl, ?_, ?_, hlt⟩
    · exact Vec.ext4 h1 h2 hb hp
    · rw [h2] at hw
      refine ⟨hl.in_, hw, fun r' c hr' hw' => hl.least r' _ hr' (hw'.step he), fun c hw' => ?_⟩
      have := hl.short _ (hw'.step he)
      omega
/-- When all stands nobody hears anything better. -/
theorem still {n : Nat} {ids : Nat → Int} {E : List Ed} (G : Graph n ids E) {k : Nat} (hk : n ≤ k) {e : Ed} (he : e ∈ E) : ¬ takesE ids (sweeps ids E k) e := by
  intro ⟨hlt, hb⟩
  obtain ⟨r, d, hl, h1, h2, h3⟩ := fin_n G hk (G.ends e he).2.1
  obtain ⟨r', d', hl', h1', h2', _⟩ := fin_n G hk (G.ends e he).1
  obtain ⟨s1, s2⟩ := least_step he hl' hl
  unfold candE at hb
  rw [h1', h2'] at hb
  by_cases e1 : r = r'
  · subst e1
    have s2 := s2 rfl
    by_cases e2 : d' + e.cost = d
    · rw [e2] at hb
      exact h3 e he rfl (by rw [h1'] at hlt; exact hlt) d' hl' e2 hb
    · unfold ltV at hb
      simp only at hb
      omega
  · have : ids r ≠ ids r' := fun h => e1 (G.names _ _ hl.in_ hl'.in_ h)
    unfold ltV at hb
    simp only at hb
    omega
/-- The same rows of ways once more change nothing. -/
theorem sweep_still {ids : Nat → Int} {E : List Ed} {f : Nat → Vec} (h : ∀ e ∈ E, ¬ takesE ids f e) : sweep ids E f = f := by
  have hr : ∀ e ∈ E, relax ids f e = f := fun e he => by
    funext x
    unfold relax
    exact if_neg fun hc => h e he hc.2
  have : ∀ L : List Ed, (∀ e ∈ L, e ∈ E) → L.foldl (relax ids) f = f := fun L => by
    induction L with
    | nil => intro _; rfl
    | cons a L ih =>
      intro hL
      rw [List.foldl_cons, hr a (hL a List.mem_cons_self)]
      exact ih fun e he => hL e (List.mem_cons_of_mem _ he)
  exact this E fun e he => he
end
section
/- Of what all hold when all stands: one way leads to each bridge that isn't the root of its part, and these ways join all that all ways join: plain theory. No program's call. -/
/-- A way over which its far end holds the root. -/
def leadsE (ids : Nat → Int) (f : Nat → Vec) (e : Ed) : Prop := f e.v = candE ids f e ∧ (f e.u).root < ids e.v
instance (ids : Nat → Int) (f : Nat → Vec) (e : Ed) : Decidable (leadsE ids f e) := by unfold leadsE; infer_instance
/-- Each port is at one way. -/
def PortsE (E : List Ed) : Prop := ∀ e ∈ E, ∀ e' ∈ E, e.u = e'.u → e.port = e'.port → e = e'
theorem leads_one {n : Nat} {ids : Nat → Int} {E : List Ed} (G : Graph n ids E) (hp : PortsE E) {f : Nat → Vec} {e e' : Ed} (he : e ∈ E) (he' : e' ∈ E) (hv : e.v = e'.v) (h : leadsE ids f e) (h' : leadsE ids f e') : e = e' := by
  have h1 := h.1
  rw [hv, h'.1] at h1
  unfold candE at h1
  injection h1 with _ _ h3 h4
  exact hp e he e' he' (G.names _ _ (G.ends e he).1 (G.ends e' he').1 h3.symm) h4.symm
theorem leads_is {n : Nat} {ids : Nat → Int} {E : List Ed} (G : Graph n ids E) {k : Nat} (hk : n ≤ k) {x r : Nat} {d : Int} (hx : x < n) (hl : Least n ids E x r d) (hne : x ≠ r) : ∃ e ∈ E, e.v = x ∧ leadsE ids (sweeps ids E k) e ∧ Least n ids E e.u r (d - e.cost) := by
  obtain ⟨e, he, hv, hs, hu, hlt⟩ := lead G hk hx hl hne
  refine ⟨e, he, hv, ?_, hu⟩
  subst hv
  obtain ⟨r2, d2, hl2, h1, h2, _⟩ := fin_n G hk (G.ends e he).1
  obtain ⟨rfl, hd⟩ := least_one G hu hl2
  unfold leadsE candE
  rw [hs, h1, h2, ← hd]
  exact ⟨by rw [show d - e.cost + e.cost = d by omega], hlt⟩
theorem leads_not {n : Nat} {ids : Nat → Int} {E : List Ed} (G : Graph n ids E) {k : Nat} (hk : n ≤ k) {x : Nat} {d : Int} (hl : Least n ids E x x d) {e : Ed} (hv : e.v = x) : ¬ leadsE ids (sweeps ids E k) e := by
  subst hv
  rintro ⟨h1, h2⟩
  obtain ⟨r2, d2, hl2, h3, _, _⟩ := fin_n G hk hl.in_
  obtain ⟨rfl, _⟩ := least_one G hl hl2
  rw [h1] at h3
  have h3 : (sweeps ids E k e.u).root = ids e.v := h3
  omega
/-- A way that leads, and its way back, don't lead both. -/
theorem leads_back {n : Nat} {ids : Nat → Int} {E : List Ed} (G : Graph n ids E) {f : Nat → Vec} {e e' : Ed} (he : e ∈ E) (he' : e' ∈ E) (h1 : e'.u = e.v) (h2 : e'.v = e.u) (h : leadsE ids f e) : ¬ leadsE ids f e' := by
  rintro ⟨k1, _⟩
  have k2 := h.1
  rw [h2] at k1
  have e1 : (f e.u).cost = (f e'.u).cost + e'.cost := by rw [k1]; rfl
  have e2 : (f e.v).cost = (f e.u).cost + e.cost := by rw [k2]; rfl
  rw [h1] at e1
  have := G.costs e he
  have := G.costs e' he'
  omega
/-- The ways that lead. -/
def treeE (ids : Nat → Int) (f : Nat → Vec) (E : List Ed) : List Ed := E.filter fun e => decide (leadsE ids f e)
theorem walk_mono {E E' : List Ed} (h : ∀ e ∈ E, e ∈ E') {r x : Nat} {c : Int} (hw : Walk E r x c) : Walk E' r x c := by
  induction hw with
  | nil => exact .nil
  | step _ he ih => exact ih.step (h _ he)
/-- From the root of its part a way of them leads to each bridge. -/
theorem tree_walk {n : Nat} {ids : Nat → Int} {E : List Ed} (G : Graph n ids E) {k : Nat} (hk : n ≤ k) : ∀ (m : Nat) (x r : Nat) (d : Int), d ≤ m → x < n → Least n ids E x r d → Walk (treeE ids (sweeps ids E k) E) r x d := by
  intro m
  induction m with
  | zero =>
    intro x r d hd hx hl
    by_cases e : x = r
    · subst e
      have h0 := hl.short 0 .nil
      have h1 := (hl.walk.in_ G hl.in_).2
      rw [show d = 0 by omega]
      exact .nil
    · obtain ⟨e', he, hv, hle, hu⟩ := leads_is G hk hx hl e
      have h1 := (hu.walk.in_ G hu.in_).2
      have h2 := G.costs e' he
      omega
  | succ m ih =>
    intro x r d hd hx hl
    by_cases e : x = r
    · subst e
      have h0 := hl.short 0 .nil
      have h1 := (hl.walk.in_ G hl.in_).2
      rw [show d = 0 by omega]
      exact .nil
    · obtain ⟨e', he, hv, hle, hu⟩ := leads_is G hk hx hl e
      have h2 := G.costs e' he
      have hw := ih e'.u r (d - e'.cost) (by omega) (G.ends e' he).1 hu
      have := hw.step (List.mem_filter.2 ⟨he, decide_eq_true hle⟩ : e' ∈ treeE ids (sweeps ids E k) E)
      rw [show d - e'.cost + e'.cost = d by omega, hv] at this
      exact this
theorem tree_least {n : Nat} {ids : Nat → Int} {E : List Ed} (G : Graph n ids E) {k : Nat} (hk : n ≤ k) {x r : Nat} {d : Int} (hx : x < n) (hl : Least n ids E x r d) : Walk (treeE ids (sweeps ids E k) E) r x d := by
  have h1 := (hl.walk.in_ G hl.in_).2
  exact tree_walk G hk d.toNat x r d (by omega) hx hl
/-- Injective from one list without doubles into another: it isn't longer. -/
theorem inj_len {α β : Type} [DecidableEq β] (g : α → β) : ∀ (L : List α) (M : List β), L.Nodup → (∀ a ∈ L, g a ∈ M) → (∀ a ∈ L, ∀ b ∈ L, g a = g b → a = b) → L.length ≤ M.length
  | [], _, _, _, _ => Nat.zero_le _
  | a :: L, M, hn, hm, hi => by
    obtain ⟨h1, h2⟩ := List.nodup_cons.1 hn
    have ha := hm a List.mem_cons_self
    have := inj_len g L (M.erase (g a)) h2 (fun b hb => by
      refine (List.mem_erase_of_ne fun e => ?_).2 (hm b (List.mem_cons_of_mem _ hb))
      have := hi b (List.mem_cons_of_mem _ hb) a List.mem_cons_self e
      subst this
      exact h1 hb) (fun b hb c hc e => hi b (List.mem_cons_of_mem _ hb) c (List.mem_cons_of_mem _ hc) e)
    rw [List.length_erase_of_mem ha] at this
    have hpos := List.length_pos_of_mem ha
    simp only [List.length_cons]
    omega
end
section
/- Parts of a graph: the lowest number handed on over all links again and again: plain theory. No program's call. -/
/-- Both ways over each pair, at cost 1. -/
def pairE (L : List (Nat × Nat)) : List Ed := L.flatMap fun l => [⟨l.1, l.2, 0, 1⟩, ⟨l.2, l.1, 0, 1⟩]
theorem pairE_mem {L : List (Nat × Nat)} {e : Ed} : e ∈ pairE L ↔ ∃ l ∈ L, e = ⟨l.1, l.2, 0, 1⟩ ∨ e = ⟨l.2, l.1, 0, 1⟩ := by
  unfold pairE
  rw [List.mem_flatMap]
  constructor
  · rintro ⟨l, hl, he⟩
    simp only [List.mem_cons, List.not_mem_nil, or_false] at he
    exact ⟨l, hl, he⟩
  · rintro ⟨l, hl, he⟩
    exact ⟨l, hl, by simpa only [List.mem_cons, List.not_mem_nil, or_false] using he⟩
def Pairs (n : Nat) (L : List (Nat × Nat)) : Prop := ∀ l ∈ L, l.1 < n ∧ l.2 < n ∧ l.1 ≠ l.2
theorem pair_graph {n : Nat} {L : List (Nat × Nat)} (h : Pairs n L) : Graph n (fun i => (i : Int)) (pairE L) where
  names x y _ _ e := by have e : (x : Int) = y := e; omega
  ends e he := by
    obtain ⟨l, hl, rfl | rfl⟩ := pairE_mem.1 he
    · exact h l hl
    · exact ⟨(h l hl).2.1, (h l hl).1, fun e => (h l hl).2.2 e.symm⟩
  costs e he := by
    obtain ⟨l, hl, rfl | rfl⟩ := pairE_mem.1 he <;> exact Int.le_refl _
theorem Walk.join {E : List Ed} {r x y : Nat} {c c' : Int} (h : Walk E r x c) (h' : Walk E x y c') : Walk E r y (c + c') := by
  induction h' with
  | nil => rw [Int.add_zero]; exact h
  | step _ he ih => rw [← Int.add_assoc]; exact ih.step he
theorem Walk.back {E : List Ed} (hs : ∀ e ∈ E, ∃ e' ∈ E, e'.u = e.v ∧ e'.v = e.u) {r x : Nat} {c : Int} (h : Walk E r x c) : ∃ c', Walk E x r c' := by
  induction h with
  | nil => exact ⟨0, .nil⟩
  | @step c e _ he ih =>
    obtain ⟨c', h'⟩ := ih
    obtain ⟨e', he', h1, h2⟩ := hs e he
    have s : Walk E e.v e'.v (0 + e'.cost) := by
      have := (Walk.nil (E := E) (r := e'.u)).step he'
      rwa [h1] at this
    rw [h2] at s
    exact ⟨_, s.join h'⟩
theorem pair_back {L : List (Nat × Nat)} : ∀ e ∈ pairE L, ∃ e' ∈ pairE L, e'.u = e.v ∧ e'.v = e.u := fun e he => by
  obtain ⟨l, hl, rfl | rfl⟩ := pairE_mem.1 he
  · exact ⟨_, pairE_mem.2 ⟨l, hl, .inr rfl⟩, rfl, rfl⟩
  · exact ⟨_, pairE_mem.2 ⟨l, hl, .inl rfl⟩, rfl, rfl⟩
def pstep (f : Nat → Nat) (l : Nat × Nat) : Nat → Nat := fun x => if x = l.1 ∨ x = l.2 then min (f l.1) (f l.2) else f x
def psweep (L : List (Nat × Nat)) (f : Nat → Nat) : Nat → Nat := L.foldl pstep f
def psweeps (L : List (Nat × Nat)) : Nat → Nat → Nat
  | 0 => fun x => x
  | k + 1 => psweep L (psweeps L k)
theorem pstep_le (f : Nat → Nat) (l : Nat × Nat) (x : Nat) : pstep f l x ≤ f x := by
  unfold pstep
  by_cases c : x = l.1 ∨ x = l.2
  · rw [if_pos c]
    rcases c with rfl | rfl <;> omega
  · rw [if_neg c]
    exact Nat.le_refl _
/-- What x has comes from somewhere that leads to it. -/
def PReal (n : Nat) (L : List (Nat × Nat)) (f : Nat → Nat) : Prop := ∀ x, x < n → f x < n ∧ ∃ c, Walk (pairE L) (f x) x c
theorem preal_step {n : Nat} {L : List (Nat × Nat)} (hL : Pairs n L) {f : Nat → Nat} (h : PReal n L f) {l : Nat × Nat} (hl : l ∈ L) : PReal n L (pstep f l) := fun x hx => by
  unfold pstep
  by_cases c : x = l.1 ∨ x = l.2
  · rw [if_pos c]
    obtain ⟨h1, h2, _⟩ := hL l hl
    obtain ⟨a1, c1, w1⟩ := h l.1 h1
    obtain ⟨a2, c2, w2⟩ := h l.2 h2
    have e1 : (⟨l.1, l.2, 0, 1⟩ : Ed) ∈ pairE L := pairE_mem.2 ⟨l, hl, .inl rfl⟩
    have e2 : (⟨l.2, l.1, 0, 1⟩ : Ed) ∈ pairE L := pairE_mem.2 ⟨l, hl, .inr rfl⟩
    rcases Nat.le_total (f l.1) (f l.2) with hle | hle
    · rw [Nat.min_eq_left hle]
      rcases c with rfl | rfl
      · exact ⟨a1, _, w1⟩
      · exact ⟨a1, _, Walk.step (e := ⟨l.1, l.2, 0, 1⟩) w1 e1⟩
    · rw [Nat.min_eq_right hle]
      rcases c with rfl | rfl
      · exact ⟨a2, _, Walk.step (e := ⟨l.2, l.1, 0, 1⟩) w2 e2⟩
      · exact ⟨a2, _, w2⟩
  · rw [if_neg c]
    exact h x hx
theorem pfold_keep {L : List (Nat × Nat)} {P : (Nat → Nat) → Prop} (hP : ∀ f l, l ∈ L → P f → P (pstep f l)) (M : List (Nat × Nat)) (hM : ∀ l ∈ M, l ∈ L) (f : Nat → Nat) (h : P f) : P (M.foldl pstep f) := by
  induction M generalizing f with
  | nil => exact h
  | cons a M ih => exact ih (fun l hl => hM l (List.mem_cons_of_mem _ hl)) _ (hP f a (hM a List.mem_cons_self) h)
theorem preal_sweeps {n : Nat} {L : List (Nat × Nat)} (hL : Pairs n L) (k : Nat) : PReal n L (psweeps L k) := by
  induction k with
  | zero => exact fun x hx => ⟨hx, 0, .nil⟩
  | succ k ih => exact pfold_keep (P := PReal n L) (fun f l hl h => preal_step hL h hl) L (fun _ hl => hl) _ ih
theorem preal_low {n : Nat} {L : List (Nat × Nat)} {f : Nat → Nat} (h : PReal n L f) {x r : Nat} {d : Int} (hx : x < n) (hl : Least n (fun i => (i : Int)) (pairE L) x r d) : r ≤ f x := by
  obtain ⟨h1, c, hw⟩ := h x hx
  have h2 : (r : Int) ≤ (f x : Int) := hl.least (f x) c h1 hw
  omega
theorem pfin_keep {n : Nat} {L : List (Nat × Nat)} (hL : Pairs n L) {f : Nat → Nat} (hf : PReal n L f) {x r : Nat} {d : Int} (hx : x < n) (hl : Least n (fun i => (i : Int)) (pairE L) x r d) (h : f x = r) (M : List (Nat × Nat)) (hM : ∀ l ∈ M, l ∈ L) : M.foldl pstep f x = r :=
  (pfold_keep (L := L) (P := fun g => PReal n L g ∧ g x = r) (fun g l hl' hg => by
    have h1 := preal_step hL hg.1 hl'
    have h2 := preal_low h1 hx hl
    have h3 := pstep_le g l x
    exact ⟨h1, by have := hg.2; omega⟩) M hM f ⟨hf, h⟩).2
/-- Within as many rounds as there are numbers each has the lowest of its part. -/
theorem pfin_all {n : Nat} {L : List (Nat × Nat)} (hL : Pairs n L) (k : Nat) : ∀ x, x < n → ∀ r d, Least n (fun i => (i : Int)) (pairE L) x r d → rk n (fun i => (i : Int)) (pairE L) r d ≤ k → psweeps L k x = r := by
  have G := pair_graph hL
  have hroot : ∀ k x d, x < n → Least n (fun i => (i : Int)) (pairE L) x x d → psweeps L k x = x := fun k => by
    induction k with
    | zero => intro x d _ _; rfl
    | succ k ih => intro x d hx hl; exact pfin_keep hL (preal_sweeps hL k) hx hl (ih x d hx hl) L fun _ h => h
  have hlast : ∀ x r d, x < n → x ≠ r → Least n (fun i => (i : Int)) (pairE L) x r d → ∃ e ∈ pairE L, e.v = x ∧ ∃ d', Least n (fun i => (i : Int)) (pairE L) e.u r d' ∧ rk n (fun i => (i : Int)) (pairE L) r d' < rk n (fun i => (i : Int)) (pairE L) r d := fun x r d hx hne hl => by
    rcases hl.walk.last with ⟨h, _⟩ | ⟨e, he, hv, hw⟩
    · exact absurd h hne
    · subst hv
      obtain ⟨r2, d2, hl2⟩ := least_is G (G.ends e he).1
      have e1 : (r2 : Int) ≤ (r : Int) := hl2.least r _ hl.in_ hw
      have e2 : (r : Int) ≤ (r2 : Int) := hl.least r2 _ hl2.in_ (hl2.walk.step he)
      have hrr : r2 = r := by omega
      subst hrr
      have e3 := hl2.short _ hw
      exact ⟨e, he, rfl, d2, hl2, rk_lt G (G.ends e he).1 hl2 (by have := G.costs e he; omega)⟩
  induction k with
  | zero =>
    intro x hx r d hl hk
    by_cases e : x = r
    · subst e; rfl
    · obtain ⟨_, _, _, _, _, h⟩ := hlast x r d hx e hl
      omega
  | succ k ih =>
    intro x hx r d hl hk
    by_cases e : x = r
    · subst e
      exact hroot _ _ _ hx hl
    · obtain ⟨e', he, hv, d', hl', hrk⟩ := hlast x r d hx e hl
      subst hv
      have hu := ih e'.u (G.ends e' he).1 r d' hl' (by omega)
      have hreal := preal_sweeps hL k
      have hfin : PReal n L (psweeps L (k + 1)) := preal_sweeps hL (k + 1)
      have hlow := preal_low hfin hx hl
      -- the round comes by this pair
      have hpair : ∃ l ∈ L, (l.1 = e'.u ∧ l.2 = e'.v) ∨ (l.2 = e'.u ∧ l.1 = e'.v) := by
        obtain ⟨l, hlL, rfl | rfl⟩ := pairE_mem.1 he
        · exact ⟨l, hlL, .inl ⟨rfl, rfl⟩⟩
        · exact ⟨l, hlL, .inr ⟨rfl, rfl⟩⟩
      obtain ⟨l, hlL, hor⟩ := hpair
      obtain ⟨M1, M2, hM⟩ := List.append_of_mem hlL
      have hM1 : ∀ q ∈ M1, q ∈ L := fun q hq => by rw [hM]; exact List.mem_append_left _ hq
      have hM2 : ∀ q ∈ M2, q ∈ L := fun q hq => by rw [hM]; exact List.mem_append_right _ (List.mem_cons_of_mem _ hq)
      have hu1 : M1.foldl pstep (psweeps L k) e'.u = r := pfin_keep hL hreal (G.ends e' he).1 hl' hu M1 hM1
      have hr1 : PReal n L (M1.foldl pstep (psweeps L k)) := pfold_keep (P := PReal n L) (fun f l hl h => preal_step hL h hl) M1 hM1 _ hreal
      have hv1 : pstep (M1.foldl pstep (psweeps L k)) l e'.v = r := by
        have h2 := preal_low (preal_step hL hr1 hlL) hx hl
        have h3 : pstep (M1.foldl pstep (psweeps L k)) l e'.v ≤ M1.foldl pstep (psweeps L k) e'.u := by
          unfold pstep
          rcases hor with ⟨h1, h2⟩ | ⟨h1, h2⟩
          · rw [if_pos (.inr h2.symm), h1]; omega
          · rw [if_pos (.inl h2.symm), h1]; omega
        omega
      have hall : psweeps L (k + 1) e'.v = M2.foldl pstep (pstep (M1.foldl pstep (psweeps L k)) l) e'.v := by
        have h9 : ∀ g : Nat → Nat, L.foldl pstep g e'.v = M2.foldl pstep (pstep (M1.foldl pstep g) l) e'.v := fun g => by rw [hM, List.foldl_append, List.foldl_cons]
        exact h9 _
      rw [hall]
      exact pfin_keep hL (preal_step hL hr1 hlL) hx hl hv1 M2 hM2
theorem pfin_n {n : Nat} {L : List (Nat × Nat)} (hL : Pairs n L) {x : Nat} (hx : x < n) : ∃ d, Least n (fun i => (i : Int)) (pairE L) x (psweeps L n x) d := by
  obtain ⟨r, d, hl⟩ := least_is (pair_graph hL) hx
  have := pfin_all hL n x hx r d hl (Nat.le_of_lt (rk_n (pair_graph hL) hx hl))
  rw [this]
  exact ⟨d, hl⟩
end
section
/- The links that lead join what all links join, and are as many as bridges less parts: plain theory. No program's call. -/
structure Lk where
  a : Nat
  pa : Int
  b : Nat
  pb : Int
  ca : Int
  cb : Int
def Lk.e1 (l : Lk) : Ed := ⟨l.a, l.b, l.pa, l.cb⟩
def Lk.e2 (l : Lk) : Ed := ⟨l.b, l.a, l.pb, l.ca⟩
def linkE (L : List Lk) : List Ed := L.flatMap fun l => [l.e1, l.e2]
def pairsOf (L : List Lk) : List (Nat × Nat) := L.map fun l => (l.a, l.b)
theorem linkE_mem {L : List Lk} {e : Ed} : e ∈ linkE L ↔ ∃ l ∈ L, e = l.e1 ∨ e = l.e2 := by
  unfold linkE
  rw [List.mem_flatMap]
  constructor
  · rintro ⟨l, hl, he⟩
    simp only [List.mem_cons, List.not_mem_nil, or_false] at he
    exact ⟨l, hl, he⟩
  · rintro ⟨l, hl, he⟩
    exact ⟨l, hl, by simpa only [List.mem_cons, List.not_mem_nil, or_false] using he⟩
/-- No port of one is a port of the other. -/
def Off (l m : Lk) : Prop := ¬ (l.a = m.a ∧ l.pa = m.pa) ∧ ¬ (l.a = m.b ∧ l.pa = m.pb) ∧ ¬ (l.b = m.a ∧ l.pb = m.pa) ∧ ¬ (l.b = m.b ∧ l.pb = m.pb)
theorem Off.symm {l m : Lk} (h : Off l m) : Off m l := by
  obtain ⟨h1, h2, h3, h4⟩ := h
  exact ⟨fun h => h1 ⟨h.1.symm, h.2.symm⟩, fun h => h3 ⟨h.1.symm, h.2.symm⟩, fun h => h2 ⟨h.1.symm, h.2.symm⟩, fun h => h4 ⟨h.1.symm, h.2.symm⟩⟩
/-- What the rows ask of a graph. -/
structure Fits (n : Nat) (ids : Nat → Int) (L : List Lk) : Prop where
  names : ∀ x y, x < n → y < n → ids x = ids y → x = y
  ends : ∀ l ∈ L, l.a < n ∧ l.b < n ∧ l.a ≠ l.b
  costs : ∀ l ∈ L, 1 ≤ l.ca ∧ 1 ≤ l.cb
  ports : L.Pairwise Off
theorem Fits.graph {n : Nat} {ids : Nat → Int} {L : List Lk} (h : Fits n ids L) : Graph n ids (linkE L) where
  names := h.names
  ends e he := by
    obtain ⟨l, hl, rfl | rfl⟩ := linkE_mem.1 he
    · exact h.ends l hl
    · exact ⟨(h.ends l hl).2.1, (h.ends l hl).1, fun e => (h.ends l hl).2.2 e.symm⟩
  costs e he := by
    obtain ⟨l, hl, rfl | rfl⟩ := linkE_mem.1 he
    · exact (h.costs l hl).2
    · exact (h.costs l hl).1
theorem Fits.pairs {n : Nat} {ids : Nat → Int} {L : List Lk} (h : Fits n ids L) : Pairs n (pairsOf L) := fun q hq => by
  obtain ⟨l, hl, rfl⟩ := List.mem_map.1 hq
  exact h.ends l hl
theorem off_or {L : List Lk} (h : L.Pairwise Off) : ∀ l ∈ L, ∀ m ∈ L, l = m ∨ Off l m := by
  induction L with
  | nil => intro l hl; cases hl
  | cons x L ih =>
    obtain ⟨h1, h2⟩ := List.pairwise_cons.1 h
    intro l hl m hm
    rcases List.mem_cons.1 hl with e | hl'
    · rcases List.mem_cons.1 hm with e' | hm'
      · exact .inl (e.trans e'.symm)
      · exact .inr (e ▸ h1 m hm')
    · rcases List.mem_cons.1 hm with e' | hm'
      · exact .inr (e' ▸ (h1 l hl').symm)
      · exact ih h2 l hl' m hm'
theorem Fits.portsE {n : Nat} {ids : Nat → Int} {L : List Lk} (h : Fits n ids L) : PortsE (linkE L) := fun e he e' he' hu hp => by
  obtain ⟨l, hl, hle⟩ := linkE_mem.1 he
  obtain ⟨m, hm, hme⟩ := linkE_mem.1 he'
  have hn := (h.ends l hl).2.2
  rcases off_or h.ports l hl m hm with rfl | ⟨o1, o2, o3, o4⟩
  · rcases hle with rfl | rfl <;> rcases hme with rfl | rfl
    · rfl
    · exact absurd hu hn
    · exact absurd hu.symm hn
    · rfl
  · rcases hle with rfl | rfl <;> rcases hme with rfl | rfl
    · exact absurd ⟨hu, hp⟩ o1
    · exact absurd ⟨hu, hp⟩ o2
    · exact absurd ⟨hu, hp⟩ o3
    · exact absurd ⟨hu, hp⟩ o4
theorem link_back {L : List Lk} : ∀ e ∈ linkE L, ∃ e' ∈ linkE L, e'.u = e.v ∧ e'.v = e.u := fun e he => by
  obtain ⟨l, hl, rfl | rfl⟩ := linkE_mem.1 he
  · exact ⟨l.e2, linkE_mem.2 ⟨l, hl, .inr rfl⟩, rfl, rfl⟩
  · exact ⟨l.e1, linkE_mem.2 ⟨l, hl, .inl rfl⟩, rfl, rfl⟩
/-- A link of the tree: over one of its ways its far end holds the root. -/
def isT (ids : Nat → Int) (f : Nat → Vec) (l : Lk) : Prop := leadsE ids f l.e1 ∨ leadsE ids f l.e2
instance (ids : Nat → Int) (f : Nat → Vec) (l : Lk) : Decidable (isT ids f l) := by unfold isT; infer_instance
def treeL (ids : Nat → Int) (f : Nat → Vec) (L : List Lk) : List Lk := L.filter fun l => decide (isT ids f l)
/-- Joined by links. -/
def Conn (L : List Lk) (x y : Nat) : Prop := ∃ c, Walk (pairE (pairsOf L)) x y c
theorem Conn.symm {L : List Lk} {x y : Nat} (h : Conn L x y) : Conn L y x := by
  obtain ⟨c, h⟩ := h
  exact h.back pair_back
theorem Conn.trans {L : List Lk} {x y z : Nat} (h : Conn L x y) (h' : Conn L y z) : Conn L x z := by
  obtain ⟨c, h⟩ := h
  obtain ⟨c', h'⟩ := h'
  exact ⟨_, h.join h'⟩
theorem conn_link {L : List Lk} {l : Lk} (hl : l ∈ L) : Conn L l.a l.b :=
  ⟨_, Walk.step (e := ⟨l.a, l.b, 0, 1⟩) .nil (pairE_mem.2 ⟨(l.a, l.b), List.mem_map.2 ⟨l, hl, rfl⟩, .inl rfl⟩)⟩
theorem conn_of_walk {L : List Lk} {E : List Ed} (hE : ∀ e ∈ E, ∃ l ∈ L, e = l.e1 ∨ e = l.e2) {x y : Nat} {c : Int} (h : Walk E x y c) : Conn L x y := by
  induction h with
  | nil => exact ⟨0, .nil⟩
  | step _ he ih =>
    obtain ⟨l, hl, rfl | rfl⟩ := hE _ he
    · exact ih.trans (conn_link hl)
    · exact ih.trans (conn_link hl).symm
theorem walk_of_conn {L : List Lk} {x y : Nat} (h : Conn L x y) : ∃ c, Walk (linkE L) x y c := by
  obtain ⟨c, h⟩ := h
  induction h with
  | nil => exact ⟨0, .nil⟩
  | step _ he ih =>
    obtain ⟨c, ih⟩ := ih
    obtain ⟨q, hq, rfl | rfl⟩ := pairE_mem.1 he
    · obtain ⟨l, hl, rfl⟩ := List.mem_map.1 hq
      exact ⟨_, Walk.step (e := l.e1) ih (linkE_mem.2 ⟨l, hl, .inl rfl⟩)⟩
    · obtain ⟨l, hl, rfl⟩ := List.mem_map.1 hq
      exact ⟨_, Walk.step (e := l.e2) ih (linkE_mem.2 ⟨l, hl, .inr rfl⟩)⟩
/-- Who hangs together has one root. -/
theorem conn_root {n : Nat} {ids : Nat → Int} {L : List Lk} (F : Fits n ids L) {x y r r' : Nat} {d d' : Int} (h : Conn L x y) (hl : Least n ids (linkE L) x r d) (hl' : Least n ids (linkE L) y r' d') : r = r' := by
  obtain ⟨c1, w1⟩ := walk_of_conn h
  obtain ⟨c2, w2⟩ := walk_of_conn h.symm
  have e1 := hl'.least r _ hl.in_ (hl.walk.join w1)
  have e2 := hl.least r' _ hl'.in_ (hl'.walk.join w2)
  exact F.names _ _ hl.in_ hl'.in_ (by omega)
theorem root_conn {n : Nat} {ids : Nat → Int} {L : List Lk} {x r : Nat} {d : Int} (hl : Least n ids (linkE L) x r d) : Conn L r x := conn_of_walk (fun _ he => linkE_mem.1 he) hl.walk
theorem tree_conn {n : Nat} {ids : Nat → Int} {L : List Lk} (F : Fits n ids L) {k : Nat} (hk : n ≤ k) {x r : Nat} {d : Int} (hx : x < n) (hl : Least n ids (linkE L) x r d) : Conn (treeL ids (sweeps ids (linkE L) k) L) r x :=
  conn_of_walk (fun e he => by
    obtain ⟨h1, h2⟩ := List.mem_filter.1 he
    have h2 := of_decide_eq_true h2
    obtain ⟨l, hl, hor⟩ := linkE_mem.1 h1
    refine ⟨l, List.mem_filter.2 ⟨hl, decide_eq_true ?_⟩, hor⟩
    rcases hor with rfl | rfl
    · exact .inl h2
    · exact .inr h2) (tree_least F.graph hk hx hl)
/-- The tree joins what all links join. -/
theorem tree_same {n : Nat} {ids : Nat → Int} {L : List Lk} (F : Fits n ids L) {k : Nat} (hk : n ≤ k) {x y : Nat} (hx : x < n) (hy : y < n) : Conn L x y ↔ Conn (treeL ids (sweeps ids (linkE L) k) L) x y := by
  constructor
  · intro h
    obtain ⟨r, d, hl⟩ := least_is F.graph hx
    obtain ⟨r', d', hl'⟩ := least_is F.graph hy
    have := conn_root F h hl hl'
    subst this
    exact (tree_conn F hk hx hl).symm.trans (tree_conn F hk hy hl')
  · rintro ⟨c, h⟩
    refine ⟨c, walk_mono (fun e he => ?_) h⟩
    obtain ⟨q, hq, hor⟩ := pairE_mem.1 he
    obtain ⟨l, hl, rfl⟩ := List.mem_map.1 hq
    exact pairE_mem.2 ⟨_, List.mem_map.2 ⟨l, (List.mem_filter.1 hl).1, rfl⟩, hor⟩
/-- The lowest number of a part. -/
theorem low_is {n : Nat} {ids : Nat → Int} {L : List Lk} (F : Fits n ids L) {x : Nat} (hx : x < n) : psweeps (pairsOf L) n x < n ∧ Conn L (psweeps (pairsOf L) n x) x ∧ ∀ y, y < n → Conn L y x → psweeps (pairsOf L) n x ≤ y := by
  obtain ⟨d, hl⟩ := pfin_n F.pairs hx
  refine ⟨hl.in_, ⟨d, hl.walk⟩, fun y hy ⟨c, h⟩ => ?_⟩
  have h1 : ((psweeps (pairsOf L) n x : Nat) : Int) ≤ (y : Int) := hl.least y c hy h
  omega
theorem low_one {n : Nat} {ids : Nat → Int} {L : List Lk} (F : Fits n ids L) {x y : Nat} (hx : x < n) (hy : y < n) (h : Conn L x y) : psweeps (pairsOf L) n x = psweeps (pairsOf L) n y := by
  obtain ⟨a1, a2, a3⟩ := low_is F hx
  obtain ⟨b1, b2, b3⟩ := low_is F hy
  have := a3 _ b1 (b2.trans h.symm)
  have := b3 _ a1 (a2.trans h)
  omega
theorem Fits.sub {n : Nat} {ids : Nat → Int} {L : List Lk} (F : Fits n ids L) (p : Lk → Bool) : Fits n ids (L.filter p) :=
  ⟨F.names, fun l hl => F.ends l (List.mem_filter.1 hl).1, fun l hl => F.costs l (List.mem_filter.1 hl).1, F.ports.filter p⟩
/-- Parts by all links are parts by the tree's. -/
theorem parts_same {n : Nat} {ids : Nat → Int} {L : List Lk} (F : Fits n ids L) {k : Nat} (hk : n ≤ k) {x : Nat} (hx : x < n) : psweeps (pairsOf L) n x = psweeps (pairsOf (treeL ids (sweeps ids (linkE L) k) L)) n x := by
  obtain ⟨a1, a2, a3⟩ := low_is F hx
  obtain ⟨b1, b2, b3⟩ := low_is (F.sub fun l => decide (isT ids (sweeps ids (linkE L) k) l)) hx
  have := a3 _ b1 ((tree_same F hk b1 hx).2 b2)
  have := b3 _ a1 ((tree_same F hk a1 hx).1 a2)
  show _ = psweeps (pairsOf (L.filter fun l => decide (isT ids (sweeps ids (linkE L) k) l))) n x
  omega
end
section
/- The links that lead are as many as bridges less parts: plain theory. No program's call. -/
theorem Fits.nodup {n : Nat} {ids : Nat → Int} {L : List Lk} (F : Fits n ids L) : L.Nodup := by
  refine F.ports.imp fun {l m} h e => ?_
  subst e
  exact h.1 ⟨rfl, rfl⟩
/-- The end that a link of the tree leads to. -/
def farL (ids : Nat → Int) (f : Nat → Vec) (l : Lk) : Nat := if leadsE ids f l.e1 then l.b else l.a
theorem farL_is {n : Nat} {ids : Nat → Int} {L : List Lk} (F : Fits n ids L) {f : Nat → Vec} {l : Lk} (hl : l ∈ L) {e : Ed} (he : e = l.e1 ∨ e = l.e2) (h : leadsE ids f e) : farL ids f l = e.v := by
  unfold farL
  have m1 : l.e1 ∈ linkE L := linkE_mem.2 ⟨l, hl, .inl rfl⟩
  have m2 : l.e2 ∈ linkE L := linkE_mem.2 ⟨l, hl, .inr rfl⟩
  rcases he with rfl | rfl
  · rw [if_pos h]; rfl
  · rw [if_neg (leads_back F.graph m2 m1 rfl rfl h)]; rfl
theorem far_edge {ids : Nat → Int} {f : Nat → Vec} {L : List Lk} {l : Lk} (hl : l ∈ treeL ids f L) : l ∈ L ∧ ∃ e, (e = l.e1 ∨ e = l.e2) ∧ leadsE ids f e := by
  obtain ⟨h1, h2⟩ := List.mem_filter.1 hl
  rcases of_decide_eq_true h2 with h | h
  · exact ⟨h1, _, .inl rfl, h⟩
  · exact ⟨h1, _, .inr rfl, h⟩
theorem edge_link {n : Nat} {ids : Nat → Int} {L : List Lk} (F : Fits n ids L) {l m : Lk} (hl : l ∈ L) (hm : m ∈ L) {e : Ed} (h1 : e = l.e1 ∨ e = l.e2) (h2 : e = m.e1 ∨ e = m.e2) : l = m := by
  rcases off_or F.ports l hl m hm with h | ⟨o1, o2, o3, o4⟩
  · exact h
  · rcases h1 with rfl | rfl <;> rcases h2 with h2 | h2
    · exact absurd ⟨congrArg Ed.u h2, congrArg Ed.port h2⟩ o1
    · exact absurd ⟨congrArg Ed.u h2, congrArg Ed.port h2⟩ o2
    · exact absurd ⟨congrArg Ed.u h2, congrArg Ed.port h2⟩ o3
    · exact absurd ⟨congrArg Ed.u h2, congrArg Ed.port h2⟩ o4
theorem root_iff {n : Nat} {ids : Nat → Int} {L : List Lk} (F : Fits n ids L) {k : Nat} (hk : n ≤ k) {x r : Nat} {d : Int} (hx : x < n) (hl : Least n ids (linkE L) x r d) : (sweeps ids (linkE L) k x).root = ids x ↔ x = r := by
  obtain ⟨r2, d2, hl2, h3, _, _⟩ := fin_n F.graph hk hx
  obtain ⟨rfl, _⟩ := least_one F.graph hl hl2
  rw [h3]
  exact ⟨fun h => (F.names _ _ hl.in_ hx h).symm, fun h => by rw [h]⟩
/-- Roots. -/
def rootsL (n : Nat) (ids : Nat → Int) (f : Nat → Vec) : List Nat := (List.range n).filter fun x => decide ((f x).root = ids x)
def othersL (n : Nat) (ids : Nat → Int) (f : Nat → Vec) : List Nat := (List.range n).filter fun x => !decide ((f x).root = ids x)
def lowsL (n : Nat) (g : Nat → Nat) : List Nat := (List.range n).filter fun x => decide (g x = x)
theorem split_len {α : Type} (p : α → Bool) (L : List α) : (L.filter p).length + (L.filter fun x => !p x).length = L.length := by
  induction L with
  | nil => rfl
  | cons a L ih =>
    simp only [List.filter_cons]
    cases p a
    · simp only [Bool.not_false, Bool.false_eq_true, if_false, if_true, List.length_cons]; omega
    · simp only [Bool.not_true, Bool.false_eq_true, if_false, if_true, List.length_cons]; omega
theorem tree_others {n : Nat} {ids : Nat → Int} {L : List Lk} (F : Fits n ids L) {k : Nat} (hk : n ≤ k) : (treeL ids (sweeps ids (linkE L) k) L).length = (othersL n ids (sweeps ids (linkE L) k)).length := by
  refine Nat.le_antisymm ?_ ?_
  · refine inj_len (farL ids (sweeps ids (linkE L) k)) _ _ (F.nodup.filter _) (fun l hl => ?_) (fun l hl m hm hlm => ?_)
    · obtain ⟨hlL, e, he, hle⟩ := far_edge hl
      have hmem : e ∈ linkE L := linkE_mem.2 ⟨l, hlL, he⟩
      rw [farL_is F hlL he hle]
      have hv := (F.graph.ends e hmem).2.1
      refine List.mem_filter.2 ⟨List.mem_range.2 hv, ?_⟩
      obtain ⟨r, d, hls⟩ := least_is F.graph hv
      simp only [Bool.not_eq_true', decide_eq_false_iff_not]
      intro h
      have := (root_iff F hk hv hls).1 h
      subst this
      exact leads_not F.graph hk hls rfl hle
    · obtain ⟨hlL, e, he, hle⟩ := far_edge hl
      obtain ⟨hmL, e', he', hle'⟩ := far_edge hm
      rw [farL_is F hlL he hle, farL_is F hmL he' hle'] at hlm
      have := leads_one F.graph F.portsE (linkE_mem.2 ⟨l, hlL, he⟩) (linkE_mem.2 ⟨m, hmL, he'⟩) hlm hle hle'
      subst this
      exact edge_link F hlL hmL he he'
  · have hex : ∀ x : Nat, ∃ l : Option Lk, x ∈ othersL n ids (sweeps ids (linkE L) k) → ∃ m, l = some m ∧ m ∈ treeL ids (sweeps ids (linkE L) k) L ∧ farL ids (sweeps ids (linkE L) k) m = x := fun x => by
      by_cases hx : x ∈ othersL n ids (sweeps ids (linkE L) k)
      · obtain ⟨h1, h2⟩ := List.mem_filter.1 hx
        have h1 := List.mem_range.1 h1
        simp only [Bool.not_eq_true', decide_eq_false_iff_not] at h2
        obtain ⟨r, d, hls⟩ := least_is F.graph h1
        obtain ⟨e, he, hv, hle, _⟩ := leads_is F.graph hk h1 hls fun h => h2 ((root_iff F hk h1 hls).2 h)
        obtain ⟨l, hlL, hor⟩ := linkE_mem.1 he
        refine ⟨some l, fun _ => ⟨l, rfl, List.mem_filter.2 ⟨hlL, decide_eq_true ?_⟩, (farL_is F hlL hor hle).trans hv⟩⟩
        rcases hor with rfl | rfl
        · exact .inl hle
        · exact .inr hle
      · exact ⟨none, fun h => absurd h hx⟩
    have hc := fun x => Classical.choose_spec (hex x)
    have : ∀ (g : Nat → Option Lk), (∀ x, x ∈ othersL n ids (sweeps ids (linkE L) k) → ∃ m, g x = some m ∧ m ∈ treeL ids (sweeps ids (linkE L) k) L ∧ farL ids (sweeps ids (linkE L) k) m = x) → (othersL n ids (sweeps ids (linkE L) k)).length ≤ (treeL ids (sweeps ids (linkE L) k) L).length := fun g hg => by
      have : DecidableEq Lk := fun a b => Classical.propDecidable (a = b)
      have h := inj_len g (othersL n ids (sweeps ids (linkE L) k)) ((treeL ids (sweeps ids (linkE L) k) L).map some) (List.nodup_range.filter _) (fun x hx => by
        obtain ⟨m, h1, h2, _⟩ := hg x hx
        exact List.mem_map.2 ⟨m, h2, h1.symm⟩) (fun x hx y hy hxy => by
        obtain ⟨m, h1, _, h3⟩ := hg x hx
        obtain ⟨m', h1', _, h3'⟩ := hg y hy
        rw [h1, h1'] at hxy
        injection hxy with hxy
        rw [← h3, ← h3', hxy])
      rwa [List.length_map] at h
    exact this _ hc
theorem low_conn {n : Nat} {ids : Nat → Int} {L : List Lk} (F : Fits n ids L) {x y : Nat} (hx : x < n) (hy : y < n) (h : psweeps (pairsOf L) n x = psweeps (pairsOf L) n y) : Conn L x y := by
  obtain ⟨_, a2, _⟩ := low_is F hx
  obtain ⟨_, b2, _⟩ := low_is F hy
  rw [h] at a2
  exact a2.symm.trans b2
/-- Each part has one root. -/
theorem roots_lows {n : Nat} {ids : Nat → Int} {L : List Lk} (F : Fits n ids L) {k : Nat} (hk : n ≤ k) : (rootsL n ids (sweeps ids (linkE L) k)).length = (lowsL n (psweeps (pairsOf L) n)).length := by
  have hroot : ∀ x, x ∈ rootsL n ids (sweeps ids (linkE L) k) → x < n ∧ ∃ d, Least n ids (linkE L) x x d := fun x hx => by
    obtain ⟨h1, h2⟩ := List.mem_filter.1 hx
    have h1 := List.mem_range.1 h1
    obtain ⟨r, d, hls⟩ := least_is F.graph h1
    have := (root_iff F hk h1 hls).1 (of_decide_eq_true h2)
    subst this
    exact ⟨h1, d, hls⟩
  have hlow : ∀ x, x ∈ lowsL n (psweeps (pairsOf L) n) → x < n ∧ psweeps (pairsOf L) n x = x := fun x hx => by
    obtain ⟨h1, h2⟩ := List.mem_filter.1 hx
    exact ⟨List.mem_range.1 h1, of_decide_eq_true h2⟩
  refine Nat.le_antisymm ?_ ?_
  · refine inj_len (psweeps (pairsOf L) n) _ _ (List.nodup_range.filter _) (fun x hx => ?_) (fun x hx y hy hxy => ?_)
    · obtain ⟨h1, _⟩ := hroot x hx
      obtain ⟨a1, a2, _⟩ := low_is F h1
      exact List.mem_filter.2 ⟨List.mem_range.2 a1, decide_eq_true (low_one F a1 h1 a2)⟩
    · obtain ⟨h1, d, hd⟩ := hroot x hx
      obtain ⟨h1', d', hd'⟩ := hroot y hy
      exact conn_root F (low_conn F h1 h1' hxy) hd hd'
  · have hex : ∀ x : Nat, ∃ r : Nat, x < n → ∃ d, Least n ids (linkE L) x r d := fun x => by
      by_cases hx : x < n
      · obtain ⟨r, d, h⟩ := least_is F.graph hx
        exact ⟨r, fun _ => ⟨d, h⟩⟩
      · exact ⟨0, fun h => absurd h hx⟩
    have : ∀ g : Nat → Nat, (∀ x, x < n → ∃ d, Least n ids (linkE L) x (g x) d) → (lowsL n (psweeps (pairsOf L) n)).length ≤ (rootsL n ids (sweeps ids (linkE L) k)).length := fun g hg => by
      refine inj_len g _ _ (List.nodup_range.filter _) (fun x hx => ?_) (fun x hx y hy hxy => ?_)
      · obtain ⟨h1, _⟩ := hlow x hx
        obtain ⟨d, hd⟩ := hg x h1
        obtain ⟨r', d', hd'⟩ := least_is F.graph hd.in_
        have e := conn_root F (root_conn hd) hd' hd
        refine List.mem_filter.2 ⟨List.mem_range.2 hd.in_, decide_eq_true ((root_iff F hk hd.in_ hd').2 e.symm)⟩
      · obtain ⟨h1, e1⟩ := hlow x hx
        obtain ⟨h2, e2⟩ := hlow y hy
        obtain ⟨d, hd⟩ := hg x h1
        obtain ⟨d', hd'⟩ := hg y h2
        rw [hxy] at hd
        rw [← e1, ← e2]
        exact low_one F h1 h2 ((root_conn hd).symm.trans (root_conn hd'))
    exact this _ fun x => Classical.choose_spec (hex x)
/-- Links of the tree and parts: together as many as bridges. -/
theorem tree_count {n : Nat} {ids : Nat → Int} {L : List Lk} (F : Fits n ids L) {k : Nat} (hk : n ≤ k) : (treeL ids (sweeps ids (linkE L) k) L).length + (lowsL n (psweeps (pairsOf L) n)).length = n := by
  rw [tree_others F hk, ← roots_lows F hk]
  have := split_len (fun x => decide ((sweeps ids (linkE L) k x).root = ids x)) (List.range n)
  rw [List.length_range] at this
  unfold othersL rootsL
  omega
theorem sweeps_rest {n : Nat} {ids : Nat → Int} {E : List Ed} (G : Graph n ids E) (j : Nat) : sweeps ids E (n + j) = sweeps ids E n := by
  induction j with
  | zero => rfl
  | succ j ih =>
    have h : sweep ids E (sweeps ids E (n + j)) = sweeps ids E (n + j) := sweep_still fun e he => still G (Nat.le_add_right n j) he
    exact h.trans ih
theorem sweeps_none (ids : Nat → Int) (k : Nat) : sweeps ids [] k = own0 ids := by
  induction k with
  | zero => rfl
  | succ k ih => exact ih
/-- As many rounds as bridges times links are as good as one for each bridge. -/
theorem sweeps_times {n : Nat} {ids : Nat → Int} {L : List Lk} (F : Fits n ids L) : sweeps ids (linkE L) (n * L.length) = sweeps ids (linkE L) n := by
  cases L with
  | nil => exact (sweeps_none ids _).trans (sweeps_none ids _).symm
  | cons l L =>
    have h : n * (l :: L).length = n + n * L.length := by rw [List.length_cons, Nat.mul_succ, Nat.add_comm]
    rw [h]
    exact sweeps_rest F.graph _
/-- The tree of so many rounds: it joins what all links join, and has as many links as bridges less parts. -/
theorem spans {n : Nat} {ids : Nat → Int} {L : List Lk} (F : Fits n ids L) :
    (∀ x, x < n → psweeps (pairsOf L) n x = psweeps (pairsOf (treeL ids (sweeps ids (linkE L) (n * L.length)) L)) n x) ∧
    (treeL ids (sweeps ids (linkE L) (n * L.length)) L).length + (lowsL n (psweeps (pairsOf L) n)).length = n := by
  rw [sweeps_times F]
  exact ⟨fun x hx => parts_same F (Nat.le_refl n) hx, tree_count F (Nat.le_refl n)⟩
end
end Go.Proofs.Ytadejdhdkkfliaa
