/- The links that lead join what all links join, and are as many as bridges less parts: plain theory. No program's call. -/
import Derived.Test.YtogkminlhjmafaaTparts
namespace Go.Proofs.Ytogkminlhjmafaa

structure Lk where
  a : Nat
  pa : Int
  b : Nat
  pb : Int
  ca : Int
  cb : Int
def Lk.e1 (l : Lk) : Ed := ⟨l.a, l.b, l.pa, l.cb⟩
def Lk.e2 (l : Lk) : Ed := ⟨l.b, l.a, l.pb, l.ca⟩
def linkE (L : List Lk) : List Ed := L.flatMap fun l => [l.e1, l.e2]
def pairsOf (L : List Lk) : List (Nat × Nat) := L.map fun l => (l.a, l.b)
theorem linkE_mem {L : List Lk} {e : Ed} : e ∈ linkE L ↔ ∃ l ∈ L, e = l.e1 ∨ e = l.e2 := by
  unfold linkE
  rw [List.mem_flatMap]
  constructor
  · rintro ⟨l, hl, he⟩
    simp only [List.mem_cons, List.not_mem_nil, or_false] at he
    exact ⟨l, hl, he⟩
  · rintro ⟨l, hl, he⟩
    exact ⟨l, hl, by simpa only [List.mem_cons, List.not_mem_nil, or_false] using he⟩
/-- No port of one is a port of the other. -/
def Off (l m : Lk) : Prop := ¬ (l.a = m.a ∧ l.pa = m.pa) ∧ ¬ (l.a = m.b ∧ l.pa = m.pb) ∧ ¬ (l.b = m.a ∧ l.pb = m.pa) ∧ ¬ (l.b = m.b ∧ l.pb = m.pb)
theorem Off.symm {l m : Lk} (h : Off l m) : Off m l := by
  obtain ⟨h1, h2, h3, h4⟩ := h
  exact ⟨fun h => h1 ⟨h.1.symm, h.2.symm⟩, fun h => h3 ⟨h.1.symm, h.2.symm⟩, fun h => h2 ⟨h.1.symm, h.2.symm⟩, fun h => h4 ⟨h.1.symm, h.2.symm⟩⟩
/-- What the rows ask of a graph. -/
structure Fits (n : Nat) (ids : Nat → Int) (L : List Lk) : Prop where
  names : ∀ x y, x < n → y < n → ids x = ids y → x = y
  ends : ∀ l ∈ L, l.a < n ∧ l.b < n ∧ l.a ≠ l.b
  costs : ∀ l ∈ L, 1 ≤ l.ca ∧ 1 ≤ l.cb
  ports : L.Pairwise Off
theorem Fits.graph {n : Nat} {ids : Nat → Int} {L : List Lk} (h : Fits n ids L) : Graph n ids (linkE L) where
  names := h.names
  ends e he := by
    obtain ⟨l, hl, rfl | rfl⟩ := linkE_mem.1 he
    · exact h.ends l hl
    · exact ⟨(h.ends l hl).2.1, (h.ends l hl).1, fun e => (h.ends l hl).2.2 e.symm⟩
  costs e he := by
    obtain ⟨l, hl, rfl | rfl⟩ := linkE_mem.1 he
    · exact (h.costs l hl).2
    · exact (h.costs l hl).1
theorem Fits.pairs {n : Nat} {ids : Nat → Int} {L : List Lk} (h : Fits n ids L) : Pairs n (pairsOf L) := fun q hq => by
  obtain ⟨l, hl, rfl⟩ := List.mem_map.1 hq
  exact h.ends l hl
theorem off_or {L : List Lk} (h : L.Pairwise Off) : ∀ l ∈ L, ∀ m ∈ L, l = m ∨ Off l m := by
  induction L with
  | nil => intro l hl; cases hl
  | cons x L ih =>
    obtain ⟨h1, h2⟩ := List.pairwise_cons.1 h
    intro l hl m hm
    rcases List.mem_cons.1 hl with e | hl'
    · rcases List.mem_cons.1 hm with e' | hm'
      · exact .inl (e.trans e'.symm)
      · exact .inr (e ▸ h1 m hm')
    · rcases List.mem_cons.1 hm with e' | hm'
      · exact .inr (e' ▸ (h1 l hl').symm)
      · exact ih h2 l hl' m hm'
theorem Fits.portsE {n : Nat} {ids : Nat → Int} {L : List Lk} (h : Fits n ids L) : PortsE (linkE L) := fun e he e' he' hu hp => by
  obtain ⟨l, hl, hle⟩ := linkE_mem.1 he
  obtain ⟨m, hm, hme⟩ := linkE_mem.1 he'
  have hn := (h.ends l hl).2.2
  rcases off_or h.ports l hl m hm with rfl | ⟨o1, o2, o3, o4⟩
  · rcases hle with rfl | rfl <;> rcases hme with rfl | rfl
    · rfl
    · exact absurd hu hn
    · exact absurd hu.symm hn
    · rfl
  · rcases hle with rfl | rfl <;> rcases hme with rfl | rfl
    · exact absurd ⟨hu, hp⟩ o1
    · exact absurd ⟨hu, hp⟩ o2
    · exact absurd ⟨hu, hp⟩ o3
    · exact absurd ⟨hu, hp⟩ o4
theorem link_back {L : List Lk} : ∀ e ∈ linkE L, ∃ e' ∈ linkE L, e'.u = e.v ∧ e'.v = e.u := fun e he => by
  obtain ⟨l, hl, rfl | rfl⟩ := linkE_mem.1 he
  · exact ⟨l.e2, linkE_mem.2 ⟨l, hl, .inr rfl⟩, rfl, rfl⟩
  · exact ⟨l.e1, linkE_mem.2 ⟨l, hl, .inl rfl⟩, rfl, rfl⟩
/-- A link of the tree: over one of its ways its far end holds the root. -/
def isT (ids : Nat → Int) (f : Nat → Vec) (l : Lk) : Prop := leadsE ids f l.e1 ∨ leadsE ids f l.e2
instance (ids : Nat → Int) (f : Nat → Vec) (l : Lk) : Decidable (isT ids f l) := by unfold isT; infer_instance
def treeL (ids : Nat → Int) (f : Nat → Vec) (L : List Lk) : List Lk := L.filter fun l => decide (isT ids f l)
/-- Joined by links. -/
def Conn (L : List Lk) (x y : Nat) : Prop := ∃ c, Walk (pairE (pairsOf L)) x y c
theorem Conn.symm {L : List Lk} {x y : Nat} (h : Conn L x y) : Conn L y x := by
  obtain ⟨c, h⟩ := h
  exact h.back pair_back
theorem Conn.trans {L : List Lk} {x y z : Nat} (h : Conn L x y) (h' : Conn L y z) : Conn L x z := by
  obtain ⟨c, h⟩ := h
  obtain ⟨c', h'⟩ := h'
  exact ⟨_, h.join h'⟩
theorem conn_link {L : List Lk} {l : Lk} (hl : l ∈ L) : Conn L l.a l.b :=
  ⟨_, Walk.step (e := ⟨l.a, l.b, 0, 1⟩) .nil (pairE_mem.2 ⟨(l.a, l.b), List.mem_map.2 ⟨l, hl, rfl⟩, .inl rfl⟩)⟩
theorem conn_of_walk {L : List Lk} {E : List Ed} (hE : ∀ e ∈ E, ∃ l ∈ L, e = l.e1 ∨ e = l.e2) {x y : Nat} {c : Int} (h : Walk E x y c) : Conn L x y := by
  induction h with
  | nil => exact ⟨0, .nil⟩
  | step _ he ih =>
    obtain ⟨l, hl, rfl | rfl⟩ := hE _ he
    · exact ih.trans (conn_link hl)
    · exact ih.trans (conn_link hl).symm
theorem walk_of_conn {L : List Lk} {x y : Nat} (h : Conn L x y) : ∃ c, Walk (linkE L) x y c := by
  obtain ⟨c, h⟩ := h
  induction h with
  | nil => exact ⟨0, .nil⟩
  | step _ he ih =>
    obtain ⟨c, ih⟩ := ih
    obtain ⟨q, hq, rfl | rfl⟩ := pairE_mem.1 he
    · obtain ⟨l, hl, rfl⟩ := List.mem_map.1 hq
      exact ⟨_, Walk.step (e := l.e1) ih (linkE_mem.2 ⟨l, hl, .inl rfl⟩)⟩
    · obtain ⟨l, hl, rfl⟩ := List.mem_map.1 hq
      exact ⟨_, Walk.step (e := l.e2) ih (linkE_mem.2 ⟨l, hl, .inr rfl⟩)⟩
/-- Who hangs together has one root. -/
theorem conn_root {n : Nat} {ids : Nat → Int} {L : List Lk} (F : Fits n ids L) {x y r r' : Nat} {d d' : Int} (h : Conn L x y) (hl : Least n ids (linkE L) x r d) (hl' : Least n ids (linkE L) y r' d') : r = r' := by
  obtain ⟨c1, w1⟩ := walk_of_conn h
  obtain ⟨c2, w2⟩ := walk_of_conn h.symm
  have e1 := hl'.least r _ hl.in_ (hl.walk.join w1)
  have e2 := hl.least r' _ hl'.in_ (hl'.walk.join w2)
  exact F.names _ _ hl.in_ hl'.in_ (by omega)
theorem root_conn {n : Nat} {ids : Nat → Int} {L : List Lk} {x r : Nat} {d : Int} (hl : Least n ids (linkE L) x r d) : Conn L r x := conn_of_walk (fun _ he => linkE_mem.1 he) hl.walk
theorem tree_conn {n : Nat} {ids : Nat → Int} {L : List Lk} (F : Fits n ids L) {k : Nat} (hk : n ≤ k) {x r : Nat} {d : Int} (hx : x < n) (hl : Least n ids (linkE L) x r d) : Conn (treeL ids (sweeps ids (linkE L) k) L) r x :=
  conn_of_walk (fun e he => by
    obtain ⟨h1, h2⟩ := List.mem_filter.1 he
    have h2 := of_decide_eq_true h2
    obtain ⟨l, hl, hor⟩ := linkE_mem.1 h1
    refine ⟨l, List.mem_filter.2 ⟨hl, decide_eq_true ?_⟩, hor⟩
    rcases hor with rfl | rfl
    · exact .inl h2
    · exact .inr h2) (tree_least F.graph hk hx hl)
/-- The tree joins what all links join. -/
theorem tree_same {n : Nat} {ids : Nat → Int} {L : List Lk} (F : Fits n ids L) {k : Nat} (hk : n ≤ k) {x y : Nat} (hx : x < n) (hy : y < n) : Conn L x y ↔ Conn (treeL ids (sweeps ids (linkE L) k) L) x y := by
  constructor
  · intro h
    obtain ⟨r, d, hl⟩ := least_is F.graph hx
    obtain ⟨r', d', hl'⟩ := least_is F.graph hy
    have := conn_root F h hl hl'
    subst this
    exact (tree_conn F hk hx hl).symm.trans (tree_conn F hk hy hl')
  · rintro ⟨c, h⟩
    refine ⟨c, walk_mono (fun e he => ?_) h⟩
    obtain ⟨q, hq, hor⟩ := pairE_mem.1 he
    obtain ⟨l, hl, rfl⟩ := List.mem_map.1 hq
    exact pairE_mem.2 ⟨_, List.mem_map.2 ⟨l, (List.mem_filter.1 hl).1, rfl⟩, hor⟩
/-- The lowest number of a part. -/
theorem low_is {n : Nat} {ids : Nat → Int} {L : List Lk} (F : Fits n ids L) {x : Nat} (hx : x < n) : psweeps (pairsOf L) n x < n ∧ Conn L (psweeps (pairsOf L) n x) x ∧ ∀ y, y < n → Conn L y x → psweeps (pairsOf L) n x ≤ y := by
  obtain ⟨d, hl⟩ := pfin_n F.pairs hx
  refine ⟨hl.in_, ⟨d, hl.walk⟩, fun y hy ⟨c, h⟩ => ?_⟩
  have h1 : ((psweeps (pairsOf L) n x : Nat) : Int) ≤ (y : Int) := hl.least y c hy h
  omega
theorem low_one {n : Nat} {ids : Nat → Int} {L : List Lk} (F : Fits n ids L) {x y : Nat} (hx : x < n) (hy : y < n) (h : Conn L x y) : psweeps (pairsOf L) n x = psweeps (pairsOf L) n y := by
  obtain ⟨a1, a2, a3⟩ := low_is F hx
  obtain ⟨b1, b2, b3⟩ := low_is F hy
  have := a3 _ b1 (b2.trans h.symm)
  have := b3 _ a1 (a2.trans h)
  omega
theorem Fits.sub {n : Nat} {ids : Nat → Int} {L : List Lk} (F : Fits n ids L) (p : Lk → Bool) : Fits n ids (L.filter p) :=
  ⟨F.names, fun l hl => F.ends l (List.mem_filter.1 hl).1, fun l hl => F.costs l (List.mem_filter.1 hl).1, F.ports.filter p⟩
/-- Parts by all links are parts by the tree's. -/
theorem parts_same {n : Nat} {ids : Nat → Int} {L : List Lk} (F : Fits n ids L) {k : Nat} (hk : n ≤ k) {x : Nat} (hx : x < n) : psweeps (pairsOf L) n x = psweeps (pairsOf (treeL ids (sweeps ids (linkE L) k) L)) n x := by
  obtain ⟨a1, a2, a3⟩ := low_is F hx
  obtain ⟨b1, b2, b3⟩ := low_is (F.sub fun l => decide (isT ids (sweeps ids (linkE L) k) l)) hx
  have := a3 _ b1 ((tree_same F hk b1 hx).2 b2)
  have := b3 _ a1 ((tree_same F hk a1 hx).1 a2)
  show _ = psweeps (pairsOf (L.filter fun l => decide (isT ids (sweeps ids (linkE L) k) l))) n x
  omega
end Go.Proofs.Ytogkminlhjmafaa
