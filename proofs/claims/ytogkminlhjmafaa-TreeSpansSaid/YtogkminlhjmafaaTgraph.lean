/- Ways in a graph, and what going over all of them again and again comes to: plain theory for the tree. No program's call, no condition but those that are said. -/
import Derived.Test.YtogkminlhjmafaaVcmp
namespace Go.Proofs.Ytogkminlhjmafaa

/-- One way round a link: what u holds is heard at v. -/
structure Ed where
  u : Nat
  v : Nat
  port : Int
  cost : Int
/-- What is heard over it. -/
def candE (ids : Nat → Int) (f : Nat → Vec) (e : Ed) : Vec := ⟨(f e.u).root, (f e.u).cost + e.cost, ids e.u, e.port⟩
def takesE (ids : Nat → Int) (f : Nat → Vec) (e : Ed) : Prop := (f e.u).root < ids e.v ∧ ltV (candE ids f e) (f e.v)
instance (ids : Nat → Int) (f : Nat → Vec) (e : Ed) : Decidable (takesE ids f e) := by unfold takesE; infer_instance
def relax (ids : Nat → Int) (f : Nat → Vec) (e : Ed) : Nat → Vec := fun x => if x = e.v ∧ takesE ids f e then candE ids f e else f x
def sweep (ids : Nat → Int) (E : List Ed) (f : Nat → Vec) : Nat → Vec := E.foldl (relax ids) f
def own0 (ids : Nat → Int) : Nat → Vec := fun x => ⟨ids x, 0, ids x, 0⟩
def sweeps (ids : Nat → Int) (E : List Ed) : Nat → Nat → Vec
  | 0 => own0 ids
  | k + 1 => sweep ids E (sweeps ids E k)
/-- A way from r to x of that cost. -/
inductive Walk (E : List Ed) (r : Nat) : Nat → Int → Prop
  | nil : Walk E r r 0
  | step {c : Int} {e : Ed} : Walk E r e.u c → e ∈ E → Walk E r e.v (c + e.cost)
/-- Bridges 0 to n - 1 with names of their own, ways of cost 1 or more. -/
structure Graph (n : Nat) (ids : Nat → Int) (E : List Ed) : Prop where
  names : ∀ x y, x < n → y < n → ids x = ids y → x = y
  ends : ∀ e ∈ E, e.u < n ∧ e.v < n ∧ e.u ≠ e.v
  costs : ∀ e ∈ E, 1 ≤ e.cost
theorem Walk.in_ {n : Nat} {ids : Nat → Int} {E : List Ed} (G : Graph n ids E) {r x : Nat} {c : Int} (h : Walk E r x c) (hr : r < n) : x < n ∧ 0 ≤ c := by
  induction h with
  | nil => exact ⟨hr, Int.le_refl _⟩
  | step h he ih =>
    have := G.costs _ he
    exact ⟨(G.ends _ he).2.1, by omega⟩
/-- What is held comes from somewhere, over a way of its cost. -/
def Real (n : Nat) (ids : Nat → Int) (E : List Ed) (f : Nat → Vec) : Prop :=
  ∀ x, x < n → ∃ r, r < n ∧ Walk E r x (f x).cost ∧ (f x).root = ids r ∧ (f x = own0 ids x ∨ (f x).root < ids x ∧ ∃ e ∈ E, e.v = x ∧ Walk E r e.u ((f x).cost - e.cost) ∧ (f x).bridge = ids e.u ∧ (f x).port = e.port)
theorem real_own {n : Nat} {ids : Nat → Int} {E : List Ed} : Real n ids E (own0 ids) := fun x hx => ⟨x, hx, .nil, rfl, .inl rfl⟩
theorem real_relax {n : Nat} {ids : Nat → Int} {E : List Ed} (G : Graph n ids E) {f : Nat → Vec} (h : Real n ids E f) {e : Ed} (he : e ∈ E) : Real n ids E (relax ids f e) := fun x hx => by
  unfold relax
  by_cases c : x = e.v ∧ takesE ids f e
  · rw [if_pos c]
    obtain ⟨rfl, ht⟩ := c
    obtain ⟨r, hr, hw, hroot, _⟩ := h e.u (G.ends e he).1
    exact ⟨r, hr, hw.step he, hroot, .inr ⟨ht.1, e, he, rfl, by rw [show (candE ids f e).cost - e.cost = (f e.u).cost from Int.add_sub_cancel _ _]; exact hw, rfl, rfl⟩⟩
  · rw [if_neg c]
    exact h x hx
/-- Not worse. -/
def leV (a b : Vec) : Prop := ¬ ltV b a
theorem leV_refl (a : Vec) : leV a a := ltV_irrefl a
theorem leV.trans {a b c : Vec} (h : leV a b) (h' : leV b c) : leV a c := leV_trans h h'
theorem relax_le (ids : Nat → Int) (f : Nat → Vec) (e : Ed) (x : Nat) : leV (relax ids f e x) (f x) := by
  unfold relax
  by_cases c : x = e.v ∧ takesE ids f e
  · rw [if_pos c]
    obtain ⟨rfl, ht⟩ := c
    unfold leV
    intro h
    exact ltV_irrefl _ (ltV_trans h ht.2)
  · rw [if_neg c]
    exact leV_refl _
/-- Facts that hold of all rows of ways one has gone over. -/
theorem fold_keep {ids : Nat → Int} {E : List Ed} {P : (Nat → Vec) → Prop} (hP : ∀ f e, e ∈ E → P f → P (relax ids f e)) (L : List Ed) (hL : ∀ e ∈ L, e ∈ E) (f : Nat → Vec) (h : P f) : P (L.foldl (relax ids) f) := by
  induction L generalizing f with
  | nil => exact h
  | cons a L ih =>
    exact ih (fun e he => hL e (List.mem_cons_of_mem _ he)) _ (hP f a (hL a List.mem_cons_self) h)
theorem real_sweeps {n : Nat} {ids : Nat → Int} {E : List Ed} (G : Graph n ids E) (k : Nat) : Real n ids E (sweeps ids E k) := by
  induction k with
  | zero => exact real_own
  | succ k ih => exact fold_keep (P := Real n ids E) (fun f e he h => real_relax G h he) E (fun e he => he) _ ih
/-- The least name that leads to x, and the least cost from there. -/
structure Least (n : Nat) (ids : Nat → Int) (E : List Ed) (x r : Nat) (d : Int) : Prop where
  in_ : r < n
  walk : Walk E r x d
  least : ∀ r' c, r' < n → Walk E r' x c → ids r ≤ ids r'
  short : ∀ c, Walk E r x c → d ≤ c
theorem least_nat (p : Nat → Prop) (h : ∃ k, p k) : ∃ k, p k ∧ ∀ j, p j → k ≤ j := by
  obtain ⟨k, hk⟩ := h
  induction k using Nat.strongRecOn with
  | _ k ih =>
    by_cases c : ∃ j, j < k ∧ p j
    · obtain ⟨j, hj, hp⟩ := c
      exact ih j hj hp
    · exact ⟨k, hk, fun j hp => Nat.le_of_not_lt fun hj => c ⟨j, hj, hp⟩⟩
theorem least_name (n : Nat) (ids : Nat → Int) (p : Nat → Prop) (h : ∃ r, r < n ∧ p r) : ∃ r, r < n ∧ p r ∧ ∀ r', r' < n → p r' → ids r ≤ ids r' := by
  induction n with
  | zero => obtain ⟨r, hr, _⟩ := h; omega
  | succ n ih =>
    by_cases c : ∃ r, r < n ∧ p r
    · obtain ⟨r, hr, hp, hl⟩ := ih c
      by_cases hn : p n ∧ ids n < ids r
      · exact ⟨n, by omega, hn.1, fun r' hr' hp' => by
          by_cases e : r' = n
          · subst e; exact Int.le_refl _
          · have := hl r' (by omega) hp'; omega⟩
      · exact ⟨r, by omega, hp, fun r' hr' hp' => by
          by_cases e : r' = n
          · subst e
            by_cases hlt : ids r' < ids r
            · exact absurd ⟨hp', hlt⟩ hn
            · omega
          · exact hl r' (by omega) hp'⟩
    · obtain ⟨r, hr, hp⟩ := h
      have e : r = n := by
        by_cases e : r = n
        · exact e
        · exact absurd ⟨r, by omega, hp⟩ c
      subst e
      exact ⟨r, by omega, hp, fun r' hr' hp' => by
        by_cases e : r' = r
        · subst e; exact Int.le_refl _
        · exact absurd ⟨r', by omega, hp'⟩ c⟩
theorem least_is {n : Nat} {ids : Nat → Int} {E : List Ed} (G : Graph n ids E) {x : Nat} (hx : x < n) : ∃ r d, Least n ids E x r d := by
  obtain ⟨r, hr, ⟨c, hc⟩, hl⟩ := least_name n ids (fun r => ∃ c, Walk E r x c) ⟨x, hx, 0, .nil⟩
  obtain ⟨k, hk, hm⟩ := least_nat (fun k => Walk E r x (k : Int)) ⟨c.toNat, by have := (hc.in_ G hr).2; rwa [Int.toNat_of_nonneg this]⟩
  refine ⟨r, k, hr, hk, fun r' c' hr' hw => hl r' hr' ⟨c', hw⟩, fun c' hw => ?_⟩
  have h0 := (hw.in_ G hr).2
  have := hm c'.toNat (by rwa [Int.toNat_of_nonneg h0])
  omega
/-- What is held is no better than the least. -/
theorem real_low {n : Nat} {ids : Nat → Int} {E : List Ed} (G : Graph n ids E) {f : Nat → Vec} (h : Real n ids E f) {x r : Nat} {d : Int} (hx : x < n) (hl : Least n ids E x r d) : ids r ≤ (f x).root ∧ ((f x).root = ids r → d ≤ (f x).cost) := by
  obtain ⟨r', hr', hw, hroot, _⟩ := h x hx
  refine ⟨by rw [hroot]; exact hl.least r' _ hr' hw, fun e => ?_⟩
  have : r' = r := G.names r' r hr' hl.in_ (hroot.symm.trans e)
  subst this
  exact hl.short _ hw
/-- The least of a neighbour. -/
theorem least_step {n : Nat} {ids : Nat → Int} {E : List Ed} {e : Ed} (he : e ∈ E) {r r' : Nat} {d d' : Int} (hu : Least n ids E e.u r d) (hv : Least n ids E e.v r' d') : ids r' ≤ ids r ∧ (r' = r → d' ≤ d + e.cost) := by
  refine ⟨hv.least r _ hu.in_ (hu.walk.step he), fun h => ?_⟩
  subst h
  exact hv.short _ (hu.walk.step he)
/-- A way that isn't empty comes over a last one. -/
theorem Walk.last {E : List Ed} {r x : Nat} {c : Int} (h : Walk E r x c) : (x = r ∧ c = 0) ∨ ∃ e ∈ E, e.v = x ∧ Walk E r e.u (c - e.cost) := by
  cases h with
  | nil => exact .inl ⟨rfl, rfl⟩
  | @step c e hw he => exact .inr ⟨e, he, rfl, by rw [show c + e.cost - e.cost = c by omega]; exact hw⟩
/-- What x is to hold in the end: the least name, the least cost, and of the neighbours over which that comes the best. -/
def FinV (n : Nat) (ids : Nat → Int) (E : List Ed) (x : Nat) (v : Vec) : Prop :=
  ∃ r d, Least n ids E x r d ∧ v.root = ids r ∧ v.cost = d ∧ ∀ e ∈ E, e.v = x → ids r < ids x → ∀ d', Least n ids E e.u r d' → d' + e.cost = d → leV v ⟨ids r, d, ids e.u, e.port⟩
theorem least_one {n : Nat} {ids : Nat → Int} {E : List Ed} (G : Graph n ids E) {x r r' : Nat} {d d' : Int} (h : Least n ids E x r d) (h' : Least n ids E x r' d') : r = r' ∧ d = d' := by
  have e : r = r' := G.names _ _ h.in_ h'.in_ (by have := h.least r' d' h'.in_ h'.walk; have := h'.least r d h.in_ h.walk; omega)
  subst e
  exact ⟨rfl, by have := h.short _ h'.walk; have := h'.short _ h.walk; omega⟩
/-- Who holds it goes on holding it. -/
theorem fin_relax {n : Nat} {ids : Nat → Int} {E : List Ed} (G : Graph n ids E) {f : Nat → Vec} (hf : Real n ids E f) {e : Ed} (he : e ∈ E) {x : Nat} (hx : x < n) (h : FinV n ids E x (f x)) : FinV n ids E x (relax ids f e x) := by
  obtain ⟨r, d, hl, h1, h2, h3⟩ := h
  have hle := relax_le ids f e x
  obtain ⟨l1, l2⟩ := real_low G (real_relax G hf he) hx hl
  have hroot : (relax ids f e x).root = ids r := by unfold leV ltV at hle; omega
  have hcost : (relax ids f e x).cost = d := by have := l2 hroot; unfold leV ltV at hle; omega
  exact ⟨r, d, hl, hroot, hcost, fun e' he' hv hlt d' hd' hs => hle.trans (h3 e' he' hv hlt d' hd' hs)⟩
/-- A way over which the least comes to x. -/
def OptE (n : Nat) (ids : Nat → Int) (E : List Ed) (x r : Nat) (d : Int) (e : Ed) : Prop := e.v = x ∧ ∃ d', Least n ids E e.u r d' ∧ d' + e.cost = d
theorem relax_cand (ids : Nat → Int) (f : Nat → Vec) (e : Ed) (h : (f e.u).root < ids e.v) : leV (relax ids f e e.v) (candE ids f e) := by
  unfold relax
  by_cases c : takesE ids f e
  · rw [if_pos ⟨rfl, c⟩]
    exact leV_refl _
  · rw [if_neg fun h' => c h'.2]
    exact fun hl => c ⟨h, hl⟩
theorem fold_opt {n : Nat} {ids : Nat → Int} {E : List Ed} (G : Graph n ids E) {x r : Nat} {d : Int} (hr : ids r < ids x) (L : List Ed) (hL : ∀ e ∈ L, e ∈ E) (f : Nat → Vec) (hf : Real n ids E f) (hu : ∀ e ∈ E, OptE n ids E x r d e → FinV n ids E e.u (f e.u)) :
    ∀ e ∈ L, OptE n ids E x r d e → leV (L.foldl (relax ids) f x) ⟨ids r, d, ids e.u, e.port⟩ := by
  induction L generalizing f with
  | nil => intro e he; cases he
  | cons a L ih =>
    have haE := hL a List.mem_cons_self
    have hLE : ∀ e ∈ L, e ∈ E := fun e he => hL e (List.mem_cons_of_mem _ he)
    have hf1 := real_relax G hf haE
    have hu1 : ∀ e ∈ E, OptE n ids E x r d e → FinV n ids E e.u (relax ids f a e.u) := fun e he ho => fin_relax G hf haE (G.ends e he).1 (hu e he ho)
    intro e he ho
    rcases List.mem_cons.1 he with rfl | he
    · have hmono : leV (L.foldl (relax ids) (relax ids f e) x) (relax ids f e x) :=
        fold_keep (P := fun g => leV (g x) (relax ids f e x)) (fun g e' _ h => (relax_le ids g e' x).trans h) L hLE _ (leV_refl _)
      refine hmono.trans ?_
      obtain ⟨rfl, d', hd', hs⟩ := ho
      obtain ⟨r2, d2, hl2, h1, h2, _⟩ := hu e haE ⟨rfl, d', hd', hs⟩
      obtain ⟨rfl, rfl⟩ := least_one G hd' hl2
      have := relax_cand ids f e (by rw [h1]; exact hr)
      unfold candE at this
      rw [h1, h2, hs] at this
      exact this
    · exact ih hLE _ hf1 hu1 e he ho
theorem sweep_fin {n : Nat} {ids : Nat → Int} {E : List Ed} (G : Graph n ids E) {f : Nat → Vec} (hf : Real n ids E f) {x r : Nat} {d : Int} (hx : x < n) (hl : Least n ids E x r d) (hr : ids r < ids x) (hu : ∀ e ∈ E, OptE n ids E x r d e → FinV n ids E e.u (f e.u)) :
    FinV n ids E x (sweep ids E f x) := by
  have hopt := fold_opt G hr E (fun e he => he) f hf hu
  have hreal : Real n ids E (sweep ids E f) := fold_keep (P := Real n ids E) (fun f e he h => real_relax G h he) E (fun e he => he) f hf
  -- one of them there is
  have hone : ∃ e ∈ E, OptE n ids E x r d e := by
    rcases hl.walk.last with ⟨h, _⟩ | ⟨e, he, hv, hw⟩
    · subst h; omega
    · subst hv
      obtain ⟨r2, d2, hl2⟩ := least_is G (G.ends e he).1
      have e1 := hl2.least r _ hl.in_ hw
      have e2 := hl.least r2 _ hl2.in_ (hl2.walk.step he)
      have hrr : r2 = r := G.names _ _ hl2.in_ hl.in_ (by omega)
      subst hrr
      have e3 := hl2.short _ hw
      have e4 := hl.short _ (hl2.walk.step he)
      exact ⟨e, he, rfl, d2, hl2, by omega⟩
  obtain ⟨e0, he0, ho0⟩ := hone
  have h0 := hopt e0 he0 ho0
  obtain ⟨l1, l2⟩ := real_low G hreal hx hl
  have hle : leV (sweep ids E f x) ⟨ids r, d, ids e0.u, e0.port⟩ := h0
  have hroot : (sweep ids E f x).root = ids r := by unfold leV ltV at hle; simp only at hle; omega
  have hcost : (sweep ids E f x).cost = d := by have := l2 hroot; unfold leV ltV at hle; simp only at hle; omega
  exact ⟨r, d, hl, hroot, hcost, fun e he hv _ d' hd' hs => hopt e he ⟨hv, d', hd', hs⟩⟩
theorem count_lt {p q : Nat → Bool} {L : List Nat} (h : ∀ a ∈ L, p a = true → q a = true) {a : Nat} (ha : a ∈ L) (hq : q a = true) (hp : p a = false) : L.countP p < L.countP q := by
  induction L with
  | nil => cases ha
  | cons b L ih =>
    have hle : L.countP p ≤ L.countP q := List.countP_mono_left fun x hx hpx => h x (List.mem_cons_of_mem _ hx) hpx
    rw [List.countP_cons, List.countP_cons]
    rcases List.mem_cons.1 ha with rfl | ha
    · rw [hp, hq]
      simp
      omega
    · have := ih (fun x hx => h x (List.mem_cons_of_mem _ hx)) ha
      have hb := h b List.mem_cons_self
      cases hpb : p b with
      | false => cases q b <;> simp <;> omega
      | true => rw [hb hpb]; simp; omega
open Classical in
/-- How many are nearer to r. -/ noncomputable def rk (n : Nat) (ids : Nat → Int) (E : List Ed) (r : Nat) (d : Int) : Nat := (List.range n).countP fun w => decide (∃ d', Least n ids E w r d' ∧ d' < d)
open Classical in
theorem rk_lt {n : Nat} {ids : Nat → Int} {E : List Ed} (G : Graph n ids E) {u r : Nat} {d d' : Int} (hu : u < n) (hl : Least n ids E u r d') (h : d' < d) : rk n ids E r d' < rk n ids E r d := by
  unfold rk
  refine count_lt (fun a _ ha => ?_) (List.mem_range.2 hu) ?_ ?_
  · obtain ⟨d2, h2, h3⟩ := of_decide_eq_true ha
    exact decide_eq_true ⟨d2, h2, by omega⟩
  · exact decide_eq_true ⟨d', hl, h⟩
  · refine decide_eq_false fun ⟨d2, h2, h3⟩ => ?_
    have := (least_one G hl h2).2
    omega
open Classical in
theorem rk_n {n : Nat} {ids : Nat → Int} {E : List Ed} (G : Graph n ids E) {x r : Nat} {d : Int} (hx : x < n) (hl : Least n ids E x r d) : rk n ids E r d < n := by
  have h : rk n ids E r d < (List.range n).countP fun _ => true := by
    unfold rk
    refine count_lt (fun a _ _ => rfl) (List.mem_range.2 hx) rfl ?_
    refine decide_eq_false fun ⟨d2, h2, h3⟩ => ?_
    have := (least_one G hl h2).2
    omega
  rwa [List.countP_true, List.length_range] at h
theorem fin_sweep {n : Nat} {ids : Nat → Int} {E : List Ed} (G : Graph n ids E) {f : Nat → Vec} (hf : Real n ids E f) {x : Nat} (hx : x < n) (h : FinV n ids E x (f x)) : FinV n ids E x (sweep ids E f x) :=
  (fold_keep (P := fun g => Real n ids E g ∧ FinV n ids E x (g x)) (fun _ _ he h => ⟨real_relax G h.1 he, fin_relax G h.1 he hx h.2⟩) E (fun _ he => he) f ⟨hf, h⟩).2
theorem fin_root {n : Nat} {ids : Nat → Int} {E : List Ed} (G : Graph n ids E) {x : Nat} {d : Int} (hx : x < n) (hl : Least n ids E x x d) (k : Nat) : FinV n ids E x (sweeps ids E k x) := by
  induction k with
  | zero =>
    have h0 := hl.short 0 .nil
    have h1 := (hl.walk.in_ G hl.in_).2
    exact ⟨x, d, hl, rfl, by show (0 : Int) = d; omega, fun e he hv hlt => by omega⟩
  | succ k ih => exact fin_sweep G (real_sweeps G k) hx ih
/-- All holds within as many rounds as there are bridges. -/
theorem fin_all {n : Nat} {ids : Nat → Int} {E : List Ed} (G : Graph n ids E) (k : Nat) : ∀ x, x < n → ∀ r d, Least n ids E x r d → rk n ids E r d ≤ k → FinV n ids E x (sweeps ids E k x) := by
  induction k with
  | zero =>
    intro x hx r d hl hk
    by_cases e : x = r
    · subst e
      exact fin_root G hx hl 0
    · rcases hl.walk.last with ⟨h, _⟩ | ⟨e', he, hv, hw⟩
      · exact absurd h e
      · subst hv
        obtain ⟨r2, d2, hl2⟩ := least_is G (G.ends e' he).1
        have e1 := hl2.least r _ hl.in_ hw
        have e2 := hl.least r2 _ hl2.in_ (hl2.walk.step he)
        have hrr : r2 = r := G.names _ _ hl2.in_ hl.in_ (by omega)
        subst hrr
        have e3 := hl2.short _ hw
        have e4 := hl.short _ (hl2.walk.step he)
        have := rk_lt (d := d) G (G.ends e' he).1 hl2 (by have := G.costs e' he; omega)
        omega
  | succ k ih =>
    intro x hx r d hl hk
    by_cases e : x = r
    · subst e
      exact fin_root G hx hl (k + 1)
    · have hlt : ids r < ids x := by
        have h1 := hl.least x 0 hx .nil
        have h2 : ids r ≠ ids x := fun h => e (G.names _ _ hl.in_ hx h).symm
        omega
      refine sweep_fin G (real_sweeps G k) hx hl hlt fun e' he ho => ?_
      obtain ⟨hv, d', hd', hs⟩ := ho
      have := rk_lt (d := d) G (G.ends e' he).1 hd' (by have := G.costs e' he; omega)
      exact ih e'.u (G.ends e' he).1 r d' hd' (by omega)
theorem fin_n {n : Nat} {ids : Nat → Int} {E : List Ed} (G : Graph n ids E) {k : Nat} (hk : n ≤ k) {x : Nat} (hx : x < n) : FinV n ids E x (sweeps ids E k x) := by
  obtain ⟨r, d, hl⟩ := least_is G hx
  exact fin_all G k x hx r d hl (by have := rk_n G hx hl; omega)
/-- The way over which x holds the root, when all stands. -/
theorem lead {n : Nat} {ids : Nat → Int} {E : List Ed} (G : Graph n ids E) {k : Nat} (hk : n ≤ k) {x r : Nat} {d : Int} (hx : x < n) (hl : Least n ids E x r d) (hne : x ≠ r) :
    ∃ e ∈ E, e.v = x ∧ sweeps ids E k x = ⟨ids r, d, ids e.u, e.port⟩ ∧ Least n ids E e.u r (d - e.cost) ∧ ids r < ids x := by
  obtain ⟨r2, d2, hl2, h1, h2, _⟩ := fin_n G hk hx
  obtain ⟨rfl, rfl⟩ := least_one G hl hl2
  have hlt : ids r < ids x := by
    have h3 := hl.least x 0 hx .nil
    have h4 : ids r ≠ ids x := fun h => hne (G.names _ _ hl.in_ hx h).symm
    omega
  obtain ⟨r3, hr3, _, hroot, hor⟩ := real_sweeps G k x hx
  have e3 : r3 = r := G.names _ _ hr3 hl.in_ (hroot.symm.trans h1)
  subst e3
  rcases hor with h | ⟨_, e, he, hv, hw, hb, hp⟩
  · rw [h] at h1
    have h1 : ids x = ids r3 := h1
    omega
  · subst hv
    refine ⟨e, he, rfl, ?_, ?_, hlt⟩
    · exact Vec.ext4 h1 h2 hb hp
    · rw [h2] at hw
      refine ⟨hl.in_, hw, fun r' c hr' hw' => hl.least r' _ hr' (hw'.step he), fun c hw' => ?_⟩
      have := hl.short _ (hw'.step he)
      omega
/-- When all stands nobody hears anything better. -/
theorem still {n : Nat} {ids : Nat → Int} {E : List Ed} (G : Graph n ids E) {k : Nat} (hk : n ≤ k) {e : Ed} (he : e ∈ E) : ¬ takesE ids (sweeps ids E k) e := by
  intro ⟨hlt, hb⟩
  obtain ⟨r, d, hl, h1, h2, h3⟩ := fin_n G hk (G.ends e he).2.1
  obtain ⟨r', d', hl', h1', h2', _⟩ := fin_n G hk (G.ends e he).1
  obtain ⟨s1, s2⟩ := least_step he hl' hl
  unfold candE at hb
  rw [h1', h2'] at hb
  by_cases e1 : r = r'
  · subst e1
    have s2 := s2 rfl
    by_cases e2 : d' + e.cost = d
    · rw [e2] at hb
      exact h3 e he rfl (by rw [h1'] at hlt; exact hlt) d' hl' e2 hb
    · unfold ltV at hb
      simp only at hb
      omega
  · have : ids r ≠ ids r' := fun h => e1 (G.names _ _ hl.in_ hl'.in_ h)
    unfold ltV at hb
    simp only at hb
    omega
/-- The same rows of ways once more change nothing. -/
theorem sweep_still {ids : Nat → Int} {E : List Ed} {f : Nat → Vec} (h : ∀ e ∈ E, ¬ takesE ids f e) : sweep ids E f = f := by
  have hr : ∀ e ∈ E, relax ids f e = f := fun e he => by
    funext x
    unfold relax
    exact if_neg fun hc => h e he hc.2
  have : ∀ L : List Ed, (∀ e ∈ L, e ∈ E) → L.foldl (relax ids) f = f := fun L => by
    induction L with
    | nil => intro _; rfl
    | cons a L ih =>
      intro hL
      rw [List.foldl_cons, hr a (hL a List.mem_cons_self)]
      exact ih fun e he => hL e (List.mem_cons_of_mem _ he)
  exact this E fun e he => he
end Go.Proofs.Ytogkminlhjmafaa
