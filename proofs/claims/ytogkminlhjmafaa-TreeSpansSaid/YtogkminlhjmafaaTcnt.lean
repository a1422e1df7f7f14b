/- The links that lead are as many as bridges less parts: plain theory. No program's call. -/
import Derived.Test.YtogkminlhjmafaaTcount
namespace Go.Proofs.Ytogkminlhjmafaa

theorem Fits.nodup {n : Nat} {ids : Nat → Int} {L : List Lk} (F : Fits n ids L) : L.Nodup := by
  refine F.ports.imp fun {l m} h e => ?_
  subst e
  exact h.1 ⟨rfl, rfl⟩
/-- The end that a link of the tree leads to. -/
def farL (ids : Nat → Int) (f : Nat → Vec) (l : Lk) : Nat := if leadsE ids f l.e1 then l.b else l.a
theorem farL_is {n : Nat} {ids : Nat → Int} {L : List Lk} (F : Fits n ids L) {f : Nat → Vec} {l : Lk} (hl : l ∈ L) {e : Ed} (he : e = l.e1 ∨ e = l.e2) (h : leadsE ids f e) : farL ids f l = e.v := by
  unfold farL
  have m1 : l.e1 ∈ linkE L := linkE_mem.2 ⟨l, hl, .inl rfl⟩
  have m2 : l.e2 ∈ linkE L := linkE_mem.2 ⟨l, hl, .inr rfl⟩
  rcases he with rfl | rfl
  · rw [if_pos h]; rfl
  · rw [if_neg (leads_back F.graph m2 m1 rfl rfl h)]; rfl
theorem far_edge {ids : Nat → Int} {f : Nat → Vec} {L : List Lk} {l : Lk} (hl : l ∈ treeL ids f L) : l ∈ L ∧ ∃ e, (e = l.e1 ∨ e = l.e2) ∧ leadsE ids f e := by
  obtain ⟨h1, h2⟩ := List.mem_filter.1 hl
  rcases of_decide_eq_true h2 with h | h
  · exact ⟨h1, _, .inl rfl, h⟩
  · exact ⟨h1, _, .inr rfl, h⟩
theorem edge_link {n : Nat} {ids : Nat → Int} {L : List Lk} (F : Fits n ids L) {l m : Lk} (hl : l ∈ L) (hm : m ∈ L) {e : Ed} (h1 : e = l.e1 ∨ e = l.e2) (h2 : e = m.e1 ∨ e = m.e2) : l = m := by
  rcases off_or F.ports l hl m hm with h | ⟨o1, o2, o3, o4⟩
  · exact h
  · rcases h1 with rfl | rfl <;> rcases h2 with h2 | h2
    · exact absurd ⟨congrArg Ed.u h2, congrArg Ed.port h2⟩ o1
    · exact absurd ⟨congrArg Ed.u h2, congrArg Ed.port h2⟩ o2
    · exact absurd ⟨congrArg Ed.u h2, congrArg Ed.port h2⟩ o3
    · exact absurd ⟨congrArg Ed.u h2, congrArg Ed.port h2⟩ o4
theorem root_iff {n : Nat} {ids : Nat → Int} {L : List Lk} (F : Fits n ids L) {k : Nat} (hk : n ≤ k) {x r : Nat} {d : Int} (hx : x < n) (hl : Least n ids (linkE L) x r d) : (sweeps ids (linkE L) k x).root = ids x ↔ x = r := by
  obtain ⟨r2, d2, hl2, h3, _, _⟩ := fin_n F.graph hk hx
  obtain ⟨rfl, _⟩ := least_one F.graph hl hl2
  rw [h3]
  exact ⟨fun h => (F.names _ _ hl.in_ hx h).symm, fun h => by rw [h]⟩
/-- Roots. -/
def rootsL (n : Nat) (ids : Nat → Int) (f : Nat → Vec) : List Nat := (List.range n).filter fun x => decide ((f x).root = ids x)
def othersL (n : Nat) (ids : Nat → Int) (f : Nat → Vec) : List Nat := (List.range n).filter fun x => !decide ((f x).root = ids x)
def lowsL (n : Nat) (g : Nat → Nat) : List Nat := (List.range n).filter fun x => decide (g x = x)
theorem split_len {α : Type} (p : α → Bool) (L : List α) : (L.filter p).length + (L.filter fun x => !p x).length = L.length := by
  induction L with
  | nil => rfl
  | cons a L ih =>
    simp only [List.filter_cons]
    cases p a
    · simp only [Bool.not_false, Bool.false_eq_true, if_false, if_true, List.length_cons]; omega
    · simp only [Bool.not_true, Bool.false_eq_true, if_false, if_true, List.length_cons]; omega
theorem tree_others {n : Nat} {ids : Nat → Int} {L : List Lk} (F : Fits n ids L) {k : Nat} (hk : n ≤ k) : (treeL ids (sweeps ids (linkE L) k) L).length = (othersL n ids (sweeps ids (linkE L) k)).length := by
  refine Nat.le_antisymm ?_ ?_
  · refine inj_len (farL ids (sweeps ids (linkE L) k)) _ _ (F.nodup.filter _) (fun l hl => ?_) (fun l hl m hm hlm => ?_)
    · obtain ⟨hlL, e, he, hle⟩ := far_edge hl
      have hmem : e ∈ linkE L := linkE_mem.2 ⟨l, hlL, he⟩
      rw [farL_is F hlL he hle]
      have hv := (F.graph.ends e hmem).2.1
      refine List.mem_filter.2 ⟨List.mem_range.2 hv, ?_⟩
      obtain ⟨r, d, hls⟩ := least_is F.graph hv
      simp only [Bool.not_eq_true', decide_eq_false_iff_not]
      intro h
      have := (root_iff F hk hv hls).1 h
      subst this
      exact leads_not F.graph hk hls rfl hle
    · obtain ⟨hlL, e, he, hle⟩ := far_edge hl
      obtain ⟨hmL, e', he', hle'⟩ := far_edge hm
      rw [farL_is F hlL he hle, farL_is F hmL he' hle'] at hlm
      have := leads_one F.graph F.portsE (linkE_mem.2 ⟨l, hlL, he⟩) (linkE_mem.2 ⟨m, hmL, he'⟩) hlm hle hle'
      subst this
      exact edge_link F hlL hmL he he'
  · have hex : ∀ x : Nat, ∃ l : Option Lk, x ∈ othersL n ids (sweeps ids (linkE L) k) → ∃ m, l = some m ∧ m ∈ treeL ids (sweeps ids (linkE L) k) L ∧ farL ids (sweeps ids (linkE L) k) m = x := fun x => by
      by_cases hx : x ∈ othersL n ids (sweeps ids (linkE L) k)
      · obtain ⟨h1, h2⟩ := List.mem_filter.1 hx
        have h1 := List.mem_range.1 h1
        simp only [Bool.not_eq_true', decide_eq_false_iff_not] at h2
        obtain ⟨r, d, hls⟩ := least_is F.graph h1
        obtain ⟨e, he, hv, hle, _⟩ := leads_is F.graph hk h1 hls fun h => h2 ((root_iff F hk h1 hls).2 h)
        obtain ⟨l, hlL, hor⟩ := linkE_mem.1 he
        refine ⟨some l, fun _ => ⟨l, rfl, List.mem_filter.2 ⟨hlL, decide_eq_true ?_⟩, (farL_is F hlL hor hle).trans hv⟩⟩
        rcases hor with rfl | rfl
        · exact .inl hle
        · exact .inr hle
      · exact ⟨none, fun h => absurd h hx⟩
    have hc := fun x => Classical.choose_spec (hex x)
    have : ∀ (g : Nat → Option Lk), (∀ x, x ∈ othersL n ids (sweeps ids (linkE L) k) → ∃ m, g x = some m ∧ m ∈ treeL ids (sweeps ids (linkE L) k) L ∧ farL ids (sweeps ids (linkE L) k) m = x) → (othersL n ids (sweeps ids (linkE L) k)).length ≤ (treeL ids (sweeps ids (linkE L) k) L).length := fun g hg => by
      have : DecidableEq Lk := fun a b => Classical.propDecidable (a = b)
      have h := inj_len g (othersL n ids (sweeps ids (linkE L) k)) ((treeL ids (sweeps ids (linkE L) k) L).map some) (List.nodup_range.filter _) (fun x hx => by
        obtain ⟨m, h1, h2, _⟩ := hg x hx
        exact List.mem_map.2 ⟨m, h2, h1.symm⟩) (fun x hx y hy hxy => by
        obtain ⟨m, h1, _, h3⟩ := hg x hx
        obtain ⟨m', h1', _, h3'⟩ := hg y hy
        rw [h1, h1'] at hxy
        injection hxy with hxy
        rw [← h3, ← h3', hxy])
      rwa [List.length_map] at h
    exact this _ hc
theorem low_conn {n : Nat} {ids : Nat → Int} {L : List Lk} (F : Fits n ids L) {x y : Nat} (hx : x < n) (hy : y < n) (h : psweeps (pairsOf L) n x = psweeps (pairsOf L) n y) : Conn L x y := by
  obtain ⟨_, a2, _⟩ := low_is F hx
  obtain ⟨_, b2, _⟩ := low_is F hy
  rw [h] at a2
  exact a2.symm.trans b2
/-- Each part has one root. -/
theorem roots_lows {n : Nat} {ids : Nat → Int} {L : List Lk} (F : Fits n ids L) {k : Nat} (hk : n ≤ k) : (rootsL n ids (sweeps ids (linkE L) k)).length = (lowsL n (psweeps (pairsOf L) n)).length := by
  have hroot : ∀ x, x ∈ rootsL n ids (sweeps ids (linkE L) k) → x < n ∧ ∃ d, Least n ids (linkE L) x x d := fun x hx => by
    obtain ⟨h1, h2⟩ := List.mem_filter.1 hx
    have h1 := List.mem_range.1 h1
    obtain ⟨r, d, hls⟩ := least_is F.graph h1
    have := (root_iff F hk h1 hls).1 (of_decide_eq_true h2)
    subst this
    exact ⟨h1, d, hls⟩
  have hlow : ∀ x, x ∈ lowsL n (psweeps (pairsOf L) n) → x < n ∧ psweeps (pairsOf L) n x = x := fun x hx => by
    obtain ⟨h1, h2⟩ := List.mem_filter.1 hx
    exact ⟨List.mem_range.1 h1, of_decide_eq_true h2⟩
  refine Nat.le_antisymm ?_ ?_
  · refine inj_len (psweeps (pairsOf L) n) _ _ (List.nodup_range.filter _) (fun x hx => ?_) (fun x hx y hy hxy => ?_)
    · obtain ⟨h1, _⟩ := hroot x hx
      obtain ⟨a1, a2, _⟩ := low_is F h1
      exact List.mem_filter.2 ⟨List.mem_range.2 a1, decide_eq_true (low_one F a1 h1 a2)⟩
    · obtain ⟨h1, d, hd⟩ := hroot x hx
      obtain ⟨h1', d', hd'⟩ := hroot y hy
      exact conn_root F (low_conn F h1 h1' hxy) hd hd'
  · have hex : ∀ x : Nat, ∃ r : Nat, x < n → ∃ d, Least n ids (linkE L) x r d := fun x => by
      by_cases hx : x < n
      · obtain ⟨r, d, h⟩ := least_is F.graph hx
        exact ⟨r, fun _ => ⟨d, h⟩⟩
      · exact ⟨0, fun h => absurd h hx⟩
    have : ∀ g : Nat → Nat, (∀ x, x < n → ∃ d, Least n ids (linkE L) x (g x) d) → (lowsL n (psweeps (pairsOf L) n)).length ≤ (rootsL n ids (sweeps ids (linkE L) k)).length := fun g hg => by
      refine inj_len g _ _ (List.nodup_range.filter _) (fun x hx => ?_) (fun x hx y hy hxy => ?_)
      · obtain ⟨h1, _⟩ := hlow x hx
        obtain ⟨d, hd⟩ := hg x h1
        obtain ⟨r', d', hd'⟩ := least_is F.graph hd.in_
        have e := conn_root F (root_conn hd) hd' hd
        refine List.mem_filter.2 ⟨List.mem_range.2 hd.in_, decide_eq_true ((root_iff F hk hd.in_ hd').2 e.symm)⟩
      · obtain ⟨h1, e1⟩ := hlow x hx
        obtain ⟨h2, e2⟩ := hlow y hy
        obtain ⟨d, hd⟩ := hg x h1
        obtain ⟨d', hd'⟩ := hg y h2
        rw [hxy] at hd
        rw [← e1, ← e2]
        exact low_one F h1 h2 ((root_conn hd).symm.trans (root_conn hd'))
    exact this _ fun x => Classical.choose_spec (hex x)
/-- Links of the tree and parts: together as many as bridges. -/
theorem tree_count {n : Nat} {ids : Nat → Int} {L : List Lk} (F : Fits n ids L) {k : Nat} (hk : n ≤ k) : (treeL ids (sweeps ids (linkE L) k) L).length + (lowsL n (psweeps (pairsOf L) n)).length = n := by
  rw [tree_others F hk, ← roots_lows F hk]
  have := split_len (fun x => decide ((sweeps ids (linkE L) k x).root = ids x)) (List.range n)
  rw [List.length_range] at this
  unfold othersL rootsL
  omega
theorem sweeps_rest {n : Nat} {ids : Nat → Int} {E : List Ed} (G : Graph n ids E) (j : Nat) : sweeps ids E (n + j) = sweeps ids E n := by
  induction j with
  | zero => rfl
  | succ j ih =>
    have h : sweep ids E (sweeps ids E (n + j)) = sweeps ids E (n + j) := sweep_still fun e he => still G (Nat.le_add_right n j) he
    exact h.trans ih
theorem sweeps_none (ids : Nat → Int) (k : Nat) : sweeps ids [] k = own0 ids := by
  induction k with
  | zero => rfl
  | succ k ih => exact ih
/-- As many rounds as bridges times links are as good as one for each bridge. -/
theorem sweeps_times {n : Nat} {ids : Nat → Int} {L : List Lk} (F : Fits n ids L) : sweeps ids (linkE L) (n * L.length) = sweeps ids (linkE L) n := by
  cases L with
  | nil => exact (sweeps_none ids _).trans (sweeps_none ids _).symm
  | cons l L =>
    have h : n * (l :: L).length = n + n * L.length := by rw [List.length_cons, Nat.mul_succ, Nat.add_comm]
    rw [h]
    exact sweeps_rest F.graph _
/-- The tree of so many rounds: it joins what all links join, and has as many links as bridges less parts. -/
theorem spans {n : Nat} {ids : Nat → Int} {L : List Lk} (F : Fits n ids L) :
    (∀ x, x < n → psweeps (pairsOf L) n x = psweeps (pairsOf (treeL ids (sweeps ids (linkE L) (n * L.length)) L)) n x) ∧
    (treeL ids (sweeps ids (linkE L) (n * L.length)) L).length + (lowsL n (psweeps (pairsOf L) n)).length = n := by
  rw [sweeps_times F]
  exact ⟨fun x hx => parts_same F (Nat.le_refl n) hx, tree_count F (Nat.le_refl n)⟩
end Go.Proofs.Ytogkminlhjmafaa
