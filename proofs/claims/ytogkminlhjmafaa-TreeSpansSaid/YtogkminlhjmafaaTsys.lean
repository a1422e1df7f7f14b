/- Bridges that hear and say, as plain data: ports, what becomes of them, the two directions of links. No program's call, no condition but those that are said. -/
import Derived.Test.YtogkminlhjmafaaVrole
import Derived.Test.YtogkminlhjmafaaTcnt
namespace Go.Proofs.Ytogkminlhjmafaa

/-- A port: what it is, what was heard there and when, its role and since when. -/
structure Pt where
  up : Bool
  way : Int
  none : Bool
  vec : Vec
  age : Int
  at_ : Int
  role : Int
  since : Int
def hdOf (p : Pt) : Hd := ⟨p.vec.root, p.vec.cost, p.vec.bridge, p.vec.port, p.age, p.way, p.none || !p.up⟩
/-- What was heard at the first m ports. -/
def hds (m : Nat) (f : Nat → Pt) : List Hd := (List.range m).map fun i => hdOf (f i)
theorem hds_len (m : Nat) (f : Nat → Pt) : (hds m f).length = m := by simp [hds]
theorem hds_at (m : Nat) (f : Nat → Pt) (k : Nat) (h : k < m) : (hds m f).getD k hd0 = hdOf (f k) := by
  unfold hds
  rw [List.getD_eq_getElem?_getD, List.getElem?_map, List.getElem?_range h]
  rfl
def bestP (id : Int) (m : Nat) (f : Nat → Pt) : Vec × Int := bestTo id (hds m f) m
def roleP (id : Int) (m : Nat) (f : Nat → Pt) (i : Nat) : Int := if (f i).up = true then roleAt id (hds m f) i else 0
/-- Roles anew. -/
def anewP (id : Int) (m : Nat) (now : Int) (f : Nat → Pt) : Nat → Pt := fun i => if i < m ∧ roleP id m f i ≠ (f i).role then { f i with role := roleP id m f i, since := now } else f i
def updP (f : Nat → Pt) (i : Nat) (p : Pt) : Nat → Pt := fun j => if j = i then p else f j
def gotP (p : Pt) (v : Vec) (a now : Int) : Pt := { p with none := false, vec := v, age := a, at_ := now }
/-- Nothing was heard. -/
def wipeP (p : Pt) : Pt := { p with none := true, vec := ⟨0, 0, 0, 0⟩, age := 0 }
def setPt (p : Pt) (up : Bool) (way : Int) : Pt := { (if p.up = up then p else wipeP p) with up := up, way := way }
/-- What is too old is forgotten. -/
def oldP (now : Int) (f : Nat → Pt) : Nat → Pt := fun i => if 14 < now - (f i).at_ then wipeP (f i) else f i
def tickP (id : Int) (m : Nat) (now : Int) (f : Nat → Pt) : Nat → Pt := anewP id m now (oldP now f)
def hearP (id : Int) (m : Nat) (now : Int) (f : Nat → Pt) (i : Nat) (v : Vec) (a : Int) : Nat → Pt := anewP id m now (updP f i (gotP (f i) v a now))
def setP (id : Int) (m : Nat) (now : Int) (f : Nat → Pt) (i : Nat) (up : Bool) (way : Int) : Nat → Pt := anewP id m now (updP f i (setPt (f i) up way))
/-- The age of what it holds. -/
def ageP (id : Int) (m : Nat) (f : Nat → Pt) : Int := if (bestP id m f).2 < 0 then 0 else (f (bestP id m f).2.toNat).age + 1
def stateP (p : Pt) (now : Int) : Int := if p.role = 1 ∨ p.role = 2 then (if now - p.since < 4 then 0 else if now - p.since < 8 then 1 else 2) else 0
def GoodM (v : Vec) (a : Int) : Prop := nameB v.root = true ∧ nameB v.bridge = true ∧ 0 ≤ v.cost ∧ v.cost < 2147483648 ∧ 0 ≤ v.port ∧ v.port ≤ 5 ∧ 0 ≤ a ∧ a ≤ 10

theorem anew_hd (id : Int) (m : Nat) (now : Int) (f : Nat → Pt) (i : Nat) : hdOf (anewP id m now f i) = hdOf (f i) := by
  unfold anewP
  split <;> rfl
theorem anew_up (id : Int) (m : Nat) (now : Int) (f : Nat → Pt) (i : Nat) : (anewP id m now f i).up = (f i).up ∧ (anewP id m now f i).way = (f i).way ∧ (anewP id m now f i).none = (f i).none ∧ (anewP id m now f i).vec = (f i).vec ∧ (anewP id m now f i).age = (f i).age ∧ (anewP id m now f i).at_ = (f i).at_ := by
  unfold anewP
  split <;> exact ⟨rfl, rfl, rfl, rfl, rfl, rfl⟩
theorem hds_congr {m : Nat} {f g : Nat → Pt} (h : ∀ i, i < m → hdOf (f i) = hdOf (g i)) : hds m f = hds m g := by
  unfold hds
  exact List.map_congr_left fun i hi => h i (List.mem_range.1 hi)
theorem anew_hds (id : Int) (m : Nat) (now : Int) (f : Nat → Pt) : hds m (anewP id m now f) = hds m f := hds_congr fun i _ => anew_hd id m now f i
theorem roleP_congr {id : Int} {m : Nat} {f g : Nat → Pt} (h : hds m f = hds m g) {i : Nat} (hu : (f i).up = (g i).up) : roleP id m f i = roleP id m g i := by
  unfold roleP
  rw [h, hu]
theorem anew_role (id : Int) (m : Nat) (now : Int) (f : Nat → Pt) (i : Nat) (hi : i < m) : (anewP id m now f i).role = roleP id m (anewP id m now f) i := by
  rw [roleP_congr (anew_hds id m now f) (anew_up id m now f i).1]
  unfold anewP
  by_cases h : roleP id m f i = (f i).role
  · rw [if_neg fun c => c.2 h]; exact h.symm
  · rw [if_pos ⟨hi, h⟩]
theorem anew_since (id : Int) (m : Nat) (now : Int) (f : Nat → Pt) (i : Nat) : (anewP id m now f i).since = now ∨ (anewP id m now f i).since = (f i).since := by
  unfold anewP
  split
  · exact .inl rfl
  · exact .inr rfl
theorem anew_stays (id : Int) (m : Nat) (now : Int) (f : Nat → Pt) (i : Nat) (h : roleP id m f i = (f i).role) : anewP id m now f i = f i := if_neg fun c => c.2 h

/- What the best is. -/
def thr (h : Hd) : Vec := throughV h.vec h.way
def Cand (id : Int) (h : Hd) : Prop := useB id h = true ∧ h.root < id
theorem cand_own {id : Int} {h : Hd} (c : Cand id h) : ltV (thr h) (ownV id) := .inl c.2
theorem best_spec (id : Int) (l : List Hd) (j : Nat) :
    ((bestTo id l j = (ownV id, -1) ∧ ∀ k, k < j → ¬ Cand id (l.getD k hd0)) ∨ ∃ k, k < j ∧ bestTo id l j = (thr (l.getD k hd0), (k : Int)) ∧ Cand id (l.getD k hd0)) ∧ ∀ k, k < j → Cand id (l.getD k hd0) → ¬ ltV (thr (l.getD k hd0)) (bestTo id l j).1 := by
  induction j with
  | zero => exact ⟨.inl ⟨rfl, fun k hk => absurd hk (Nat.not_lt_zero k)⟩, fun k hk => absurd hk (Nat.not_lt_zero k)⟩
  | succ j ih =>
    obtain ⟨h1, h2⟩ := ih
    rw [bestTo]
    unfold stepB
    by_cases c : useB id (l.getD j hd0) = true ∧ (l.getD j hd0).root < id ∧ ltV (throughV (l.getD j hd0).vec (l.getD j hd0).way) (bestTo id l j).1
    · rw [if_pos c]
      have hc : Cand id (l.getD j hd0) := ⟨c.1, c.2.1⟩
      refine ⟨.inr ⟨j, Nat.lt_succ_self j, rfl, hc⟩, fun k hk hk' => ?_⟩
      show ¬ ltV _ (thr (l.getD j hd0))
      by_cases e : k = j
      · subst e; exact ltV_irrefl _
      · intro hlt
        exact h2 k (by omega) hk' (ltV_trans hlt c.2.2)
    · rw [if_neg c]
      refine ⟨?_, fun k hk hk' => ?_⟩
      · rcases h1 with ⟨e, hn⟩ | ⟨k, hk, e, hc⟩
        · refine .inl ⟨e, fun k hk hk' => ?_⟩
          by_cases e' : k = j
          · subst e'
            exact c ⟨hk'.1, hk'.2, by rw [e]; exact cand_own hk'⟩
          · exact hn k (by omega) hk'
        · exact .inr ⟨k, by omega, e, hc⟩
      · by_cases e' : k = j
        · subst e'
          exact fun hlt => c ⟨hk'.1, hk'.2, hlt⟩
        · exact h2 k (by omega) hk'
theorem bestP_spec (id : Int) (m : Nat) (f : Nat → Pt) :
    ((bestP id m f = (ownV id, -1) ∧ ∀ k, k < m → ¬ Cand id (hdOf (f k))) ∨ ∃ k, k < m ∧ bestP id m f = (thr (hdOf (f k)), (k : Int)) ∧ Cand id (hdOf (f k))) ∧ ∀ k, k < m → Cand id (hdOf (f k)) → ¬ ltV (thr (hdOf (f k))) (bestP id m f).1 := by
  obtain ⟨h1, h2⟩ := best_spec id (hds m f) m
  refine ⟨?_, fun k hk hc => by have := h2 k hk; rw [hds_at m f k hk] at this; exact this hc⟩
  rcases h1 with ⟨e, hn⟩ | ⟨k, hk, e, hc⟩
  · exact .inl ⟨e, fun k hk => by have := hn k hk; rwa [hds_at m f k hk] at this⟩
  · rw [hds_at m f k hk] at e hc
    exact .inr ⟨k, hk, e, hc⟩
theorem roleP_up {id : Int} {m : Nat} {f : Nat → Pt} {i : Nat} (hi : i < m) (hu : (f i).up = true) : roleP id m f i = if (i : Int) = (bestP id m f).2 then 1 else roleO id (hdOf (f i)) (offerV (bestP id m f).1 id i) := by
  unfold roleP roleAt
  rw [if_pos hu, hds_len, hds_at m f i hi]
  rfl

/- Links, each way round, with both ports. -/
structure Dl where
  u : Nat
  pu : Int
  v : Nat
  pv : Int
  cv : Int
def Dl.ed (d : Dl) : Ed := ⟨d.u, d.v, d.pu, d.cv⟩
def Lk.d1 (l : Lk) : Dl := ⟨l.a, l.pa, l.b, l.pb, l.cb⟩
def Lk.d2 (l : Lk) : Dl := ⟨l.b, l.pb, l.a, l.pa, l.ca⟩
def dirs (L : List Lk) : List Dl := L.flatMap fun l => [l.d1, l.d2]
theorem mem_dirs {L : List Lk} {d : Dl} : d ∈ dirs L ↔ ∃ l ∈ L, d = l.d1 ∨ d = l.d2 := by
  unfold dirs
  rw [List.mem_flatMap]
  constructor
  · rintro ⟨l, hl, he⟩
    simp only [List.mem_cons, List.not_mem_nil, or_false] at he
    exact ⟨l, hl, he⟩
  · rintro ⟨l, hl, he⟩
    exact ⟨l, hl, by simpa only [List.mem_cons, List.not_mem_nil, or_false] using he⟩
theorem dirs_ed {L : List Lk} {d : Dl} (h : d ∈ dirs L) : d.ed ∈ linkE L := by
  obtain ⟨l, hl, rfl | rfl⟩ := mem_dirs.1 h
  · exact linkE_mem.2 ⟨l, hl, .inl rfl⟩
  · exact linkE_mem.2 ⟨l, hl, .inr rfl⟩
theorem ed_dirs {L : List Lk} {e : Ed} (h : e ∈ linkE L) : ∃ d ∈ dirs L, d.ed = e := by
  obtain ⟨l, hl, rfl | rfl⟩ := linkE_mem.1 h
  · exact ⟨l.d1, mem_dirs.2 ⟨l, hl, .inl rfl⟩, rfl⟩
  · exact ⟨l.d2, mem_dirs.2 ⟨l, hl, .inr rfl⟩, rfl⟩
def Dl.back (d : Dl) (c : Int) : Dl := ⟨d.v, d.pv, d.u, d.pu, c⟩
theorem dirs_back {L : List Lk} {d : Dl} (h : d ∈ dirs L) : ∃ c, d.back c ∈ dirs L := by
  obtain ⟨l, hl, rfl | rfl⟩ := mem_dirs.1 h
  · exact ⟨l.ca, mem_dirs.2 ⟨l, hl, .inr rfl⟩⟩
  · exact ⟨l.cb, mem_dirs.2 ⟨l, hl, .inl rfl⟩⟩
theorem dirs_to {n : Nat} {ids : Nat → Int} {L : List Lk} (F : Fits n ids L) {d d' : Dl} (h : d ∈ dirs L) (h' : d' ∈ dirs L) (hv : d.v = d'.v) (hp : d.pv = d'.pv) : d = d' := by
  obtain ⟨l, hl, hle⟩ := mem_dirs.1 h
  obtain ⟨m, hm, hme⟩ := mem_dirs.1 h'
  have hn := (F.ends l hl).2.2
  rcases off_or F.ports l hl m hm with rfl | ⟨o1, o2, o3, o4⟩
  · rcases hle with rfl | rfl <;> rcases hme with rfl | rfl
    · rfl
    · exact absurd hv.symm hn
    · exact absurd hv hn
    · rfl
  · rcases hle with rfl | rfl <;> rcases hme with rfl | rfl
    · exact absurd ⟨hv, hp⟩ o4
    · exact absurd ⟨hv, hp⟩ o3
    · exact absurd ⟨hv, hp⟩ o2
    · exact absurd ⟨hv, hp⟩ o1
theorem dirs_from {n : Nat} {ids : Nat → Int} {L : List Lk} (F : Fits n ids L) {d d' : Dl} (h : d ∈ dirs L) (h' : d' ∈ dirs L) (hv : d.u = d'.u) (hp : d.pu = d'.pu) : d = d' := by
  obtain ⟨c, hb⟩ := dirs_back h
  obtain ⟨c', hb'⟩ := dirs_back h'
  have e := dirs_to F hb hb' hv hp
  unfold Dl.back at e
  injection e with e1 e2 e3 e4 e5
  obtain ⟨u, pu, v, pv, cv⟩ := d
  obtain ⟨u', pu', v', pv', cv'⟩ := d'
  exact dirs_to F h h' e1 e2
/-- What the rows ask of a graph, whole. -/
structure Big (n : Nat) (ids : Nat → Int) (L : List Lk) : Prop where
  fits : Fits n ids L
  few : n ≤ 8
  named : ∀ x, x < n → nameB (ids x) = true
  port : ∀ l ∈ L, 0 ≤ l.pa ∧ l.pa ≤ 5 ∧ 0 ≤ l.pb ∧ l.pb ≤ 5
  cheap : ∀ l ∈ L, l.ca ≤ 1048576 ∧ l.cb ≤ 1048576
structure DlOk (n : Nat) (d : Dl) : Prop where
  u : d.u < n
  v : d.v < n
  ne : d.u ≠ d.v
  pu : 0 ≤ d.pu ∧ d.pu ≤ 5
  pv : 0 ≤ d.pv ∧ d.pv ≤ 5
  cost : 1 ≤ d.cv ∧ d.cv ≤ 1048576
theorem Big.ok {n : Nat} {ids : Nat → Int} {L : List Lk} (K : Big n ids L) {d : Dl} (h : d ∈ dirs L) : DlOk n d := by
  obtain ⟨l, hl, rfl | rfl⟩ := mem_dirs.1 h <;> obtain ⟨e1, e2, e3⟩ := K.fits.ends l hl <;> obtain ⟨c1, c2⟩ := K.fits.costs l hl <;> obtain ⟨p1, p2, p3, p4⟩ := K.port l hl <;> obtain ⟨q1, q2⟩ := K.cheap l hl
  · exact ⟨e1, e2, e3, ⟨p1, p2⟩, ⟨p3, p4⟩, ⟨c2, q2⟩⟩
  · exact ⟨e2, e1, fun e => e3 e.symm, ⟨p3, p4⟩, ⟨p1, p2⟩, ⟨c1, q1⟩⟩
end Go.Proofs.Ytogkminlhjmafaa
