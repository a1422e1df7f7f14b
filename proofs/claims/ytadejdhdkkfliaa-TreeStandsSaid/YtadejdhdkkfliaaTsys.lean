/- Joined texts. Conditions: those that each names. -/
import Derived.Test.YtadejdhdkkfliaaVrole
import Derived.Test.YtadejdhdkkfliaaTgraph
namespace Go.Proofs.Ytadejdhdkkfliaa
section
/- Bridges that hear and say, as plain data: ports, what becomes of them, the two directions of links. No program's call, no condition but those that are said. -/
/-- A port: what it is, what was heard there and when, its role and since when. -/
structure Pt where
  up : Bool
  way : Int
  none : Bool
  vec : Vec
  age : Int
  at_ : Int
  role : Int
  since : Int
def hdOf (p : Pt) : Hd := ⟨p.vec.root, p.vec.cost, p.vec.bridge, p.vec.port, p.age, p.way, p.none || !p.up⟩
/-- What was heard at the first m ports. -/
def hds (m : Nat) (f : Nat → Pt) : List Hd := (List.range m).map fun i => hdOf (f i)
theorem hds_len (m : Nat) (f : Nat → Pt) : (hds m f).length = m := by simp [hds]
theorem hds_at (m : Nat) (f : Nat → Pt) (k : Nat) (h : k < m) : (hds m f).getD k hd0 = hdOf (f k) := by
  unfold hds
  rw [List.getD_eq_getElem?_getD, List.getElem?_map, List.getElem?_range h]
  rfl
def bestP (id : Int) (m : Nat) (f : Nat → Pt) : Vec × Int := bestTo id (hds m f) m
def roleP (id : Int) (m : Nat) (f : Nat → Pt) (i : Nat) : Int := if (f i).up = true then roleAt id (hds m f) i else 0
/-- Roles anew. -/
def anewP (id : Int) (m : Nat) (now : Int) (f : Nat → Pt) : Nat → Pt := fun i => if i < m ∧ roleP id m f i ≠ (f i).role then { f i with role := roleP id m f i, since := now } else f i
def updP (f : Nat → Pt) (i : Nat) (p : Pt) : Nat → Pt := fun j => if j = i then p else f j
def gotP (p : Pt) (v : Vec) (a now : Int) : Pt := { p with none := false, vec := v, age := a, at_ := now }
/-- Nothing was heard. -/
def wipeP (p : Pt) : Pt := { p with none := true, vec := ⟨0, 0, 0, 0⟩, age := 0 }
def setPt (p : Pt) (up : Bool) (way : Int) : Pt := { (if p.up = up then p else wipeP p) with up := up, way := way }
/-- What is too old is forgotten. -/
def oldP (now : Int) (f : Nat → Pt) : Nat → Pt := fun i => if 14 < now - (f i).at_ then wipeP (f i) else f i
def tickP (id : Int) (m : Nat) (now : Int) (f : Nat → Pt) : Nat → Pt := anewP id m now (oldP now f)
def hearP (id : Int) (m : Nat) (now : Int) (f : Nat → Pt) (i : Nat) (v : Vec) (a : Int) : Nat → Pt := anewP id m now (updP f i (gotP (f i) v a now))
def setP (id : Int) (m : Nat) (now : Int) (f : Nat → Pt) (i : Nat) (up : Bool) (way : Int) : Nat → Pt := anewP id m now (updP f i (setPt (f i) up way))
/-- The age of what it holds. -/
def ageP (id : Int) (m : Nat) (f : Nat → Pt) : Int := if (bestP id m f).2 < 0 then 0 else (f (bestP id m f).2.toNat).age + 1
def stateP (p : Pt) (now : Int) : Int := if p.role = 1 ∨ p.role = 2 then (if now - p.since < 4 then 0 else if now - p.since < 8 then 1 else 2) else 0
def GoodM (v : Vec) (a : Int) : Prop := nameB v.root = true ∧ nameB v.bridge = true ∧ 0 ≤ v.cost ∧ v.cost < 2147483648 ∧ 0 ≤ v.port ∧ v.port ≤ 5 ∧ 0 ≤ a ∧ a ≤ 10

theorem anew_hd (id : Int) (m : Nat) (now : Int) (f : Nat → Pt) (i : Nat) : hdOf (anewP id m now f i) = hdOf (f i) := by
  unfold anewP
  split <;> rfl
theorem anew_up (id : Int) (m : Nat) (now : Int) (f : Nat → Pt) (i : Nat) : (anewP id m now f i).up = (f i).up ∧ (anewP id m now f i).way = (f i).way ∧ (anewP id m now f i).none = (f i).none ∧ (anewP id m now f i).vec = (f i).vec ∧ (anewP id m now f i).age = (f i).age ∧ (anewP id m now f i).at_ = (f i).at_ := by
  unfold anewP
  split <;> exact ⟨rfl, rfl, rfl, rfl, rfl, rfl⟩
theorem hds_congr {m : Nat} {f g : Nat → Pt} (h : ∀ i, i < m → hdOf (f i) = hdOf (g i)) : hds m f = hds m g := by
  unfold hds
  exact List.map_congr_left fun i hi => h i (List.mem_range.1 hi)
theorem anew_hds (id : Int) (m : Nat) (now : Int) (f : Nat → Pt) : hds m (anewP id m now f) = hds m f := hds_congr fun i _ => anew_hd id m now f i
theorem roleP_congr {id : Int} {m : Nat} {f g : Nat → Pt} (h : hds m f = hds m g) {i : Nat} (hu : (f i).up = (g i).up) : roleP id m f i = roleP id m g i := by
  unfold roleP
  rw [h, hu]
theorem anew_role (id : Int) (m : Nat) (now : Int) (f : Nat → Pt) (i : Nat) (hi : i < m) : (anewP id m now f i).role = roleP id m (anewP id m now f) i := by
  rw [roleP_congr (anew_hds id m now f) (anew_up id m now f i).1]
  unfold anewP
  by_cases h : roleP id m f i = (f i).role
  · rw [if_neg fun c => c.2 h]; exact h.symm
  · rw [if_pos ⟨hi, h⟩]
theorem anew_since (id : Int) (m : Nat) (now : Int) (f : Nat → Pt) (i : Nat) : (anewP id m now f i).since = now ∨ (anewP id m now f i).since = (f i).since := by
  unfold anewP
  split
  · exact .inl rfl
  · exact .inr rfl
theorem anew_stays (id : Int) (m : Nat) (now : Int) (f : Nat → Pt) (i : Nat) (h : roleP id m f i = (f i).role) : anewP id m now f i = f i := if_neg fun c => c.2 h

/- What the best is. -/
def thr (h : Hd) : Vec := throughV h.vec h.way
def Cand (id : Int) (h : Hd) : Prop := useB id h = true ∧ h.root < id
theorem cand_own {id : Int} {h : Hd} (c : Cand id h) : ltV (thr h) (ownV id) := .inl c.2
theorem best_spec (id : Int) (l : List Hd) (j : Nat) :
    ((bestTo id l j = (ownV id, -1) ∧ ∀ k, k < j → ¬ Cand id (l.getD k hd0)) ∨ ∃ k, k < j ∧ bestTo id l j = (thr (l.getD k hd0), (k : Int)) ∧ Cand id (l.getD k hd0)) ∧ ∀ k, k < j → Cand id (l.getD k hd0) → ¬ ltV (thr (l.getD k hd0)) (bestTo id l j).1 := by
  induction j with
  | zero => exact ⟨.inl ⟨rfl, fun k hk => absurd hk (Nat.not_lt_zero k)⟩, fun k hk => absurd hk (Nat.not_lt_zero k)⟩
  | succ j ih =>
    obtain ⟨h1, h2⟩ := ih
    rw [bestTo]
    unfold stepB
    by_cases c : useB id (l.getD j hd0) = true ∧ (l.getD j hd0).root < id ∧ ltV (throughV (l.getD j hd0).vec (l.getD j hd0).way) (bestTo id l j).1
    · rw [if_pos c]
      have hc : Cand id (l.getD j hd0) := ⟨c.1, c.2.1⟩
      refine ⟨.inr ⟨j, Nat.lt_succ_self j, rfl, hc⟩, fun k hk hk' => ?_⟩
      show ¬ ltV _ (thr (l.getD j hd0))
      by_cases e : k = j
      · subst e; exact ltV_irrefl _
      · intro hlt
        exact h2 k (by omega) hk' (ltV_trans hlt c.2.2)
    · rw [if_neg c]
      refine ⟨?_, fun k hk hk' => ?_⟩
      · rcases h1 with ⟨e, hn⟩ | ⟨k, hk, e, hc⟩
        · refine .inl ⟨e, fun k hk hk' => ?_⟩
          by_cases e' : k = j
          · subst e'
            exact c ⟨hk'.1, hk'.2, by rw [e]; exact cand_own hk'⟩
          · exact hn k (by omega) hk'
        · exact .inr ⟨k, by omega, e, hc⟩
      · by_cases e' : k = j
        · subst e'
          exact fun hlt => c ⟨hk'.1, hk'.2, hlt⟩
        · exact h2 k (by omega) hk'
theorem bestP_spec (id : Int) (m : Nat) (f : Nat → Pt) :
    ((bestP id m f = (ownV id, -1) ∧ ∀ k, k < m → ¬ Cand id (hdOf (f k))) ∨ ∃ k, k < m ∧ bestP id m f = (thr (hdOf (f k)), (k : Int)) ∧ Cand id (hdOf (f k))) ∧ ∀ k, k < m → Cand id (hdOf (f k)) → ¬ ltV (thr (hdOf (f k))) (bestP id m f).1 := by
  obtain ⟨h1, h2⟩ := best_spec id (hds m f) m
  refine ⟨?_, fun k hk hc => by have := h2 k hk; rw [hds_at m f k hk] at this; exact this hc⟩
  rcases h1 with ⟨e, hn⟩ | ⟨k, hk, e, hc⟩
  · exact .inl ⟨e, fun k hk => by have := hn k hk; rwa [hds_at m f k hk] at this⟩
  · rw [hds_at m f k hk] at e hc
    exact .inr ⟨k, hk, e, hc⟩
theorem roleP_up {id : Int} {m : Nat} {f : Nat → Pt} {i : Nat} (hi : i < m) (hu : (f i).up = true) : roleP id m f i = if (i : Int) = (bestP id m f).2 then 1 else roleO id (hdOf (f i)) (offerV (bestP id m f).1 id i) := by
  unfold roleP roleAt
  rw [if_pos hu, hds_len, hds_at m f i hi]
  rfl

/- Links, each way round, with both ports. -/
structure Dl where
  u : Nat
  pu : Int
  v : Nat
  pv : Int
  cv : Int
def Dl.ed (d : Dl) : Ed := ⟨d.u, d.v, d.pu, d.cv⟩
def Lk.d1 (l : Lk) : Dl := ⟨l.a, l.pa, l.b, l.pb, l.cb⟩
def Lk.d2 (l : Lk) : Dl := ⟨l.b, l.pb, l.a, l.pa, l.ca⟩
def dirs (L : List Lk) : List Dl := L.flatMap fun l => [l.d1, l.d2]
theorem mem_dirs {L : List Lk} {d : Dl} : d ∈ dirs L ↔ ∃ l ∈ L, d = l.d1 ∨ d = l.d2 := by
  unfold dirs
  rw [List.mem_flatMap]
  constructor
  · rintro ⟨l, hl, he⟩
    simp only [List.mem_cons, List.not_mem_nil, or_false] at he
    exact ⟨l, hl, he⟩
  · rintro ⟨l, hl, he⟩
    exact ⟨l, hl, by simpa only [List.mem_cons, List.not_mem_nil, or_false] using he⟩
theorem dirs_ed {L : List Lk} {d : Dl} (h : d ∈ dirs L) : d.ed ∈ linkE L := by
  obtain ⟨l, hl, rfl | rfl⟩ := mem_dirs.1 h
  · exact linkE_mem.2 ⟨l, hl, .inl rfl⟩
  · exact linkE_mem.2 ⟨l, hl, .inr rfl⟩
theorem ed_dirs {L : List Lk} {e : Ed} (h : e ∈ linkE L) : ∃ d ∈ dirs L, d.ed = e := by
  obtain ⟨l, hl, rfl | rfl⟩ := linkE_mem.1 h
  · exact ⟨l.d1, mem_dirs.2 ⟨l, hl, .inl rfl⟩, rfl⟩
  · exact ⟨l.d2, mem_dirs.2 ⟨l, hl, .inr rfl⟩, rfl⟩
def Dl.back (d : Dl) (c : Int) : Dl := ⟨d.v, d.pv, d.u, d.pu, c⟩
theorem dirs_back {L : List Lk} {d : Dl} (h : d ∈ dirs L) : ∃ c, d.back c ∈ dirs L := by
  obtain ⟨l, hl, rfl | rfl⟩ := mem_dirs.1 h
  · exact ⟨l.ca, mem_dirs.2 ⟨l, hl, .inr rfl⟩⟩
  · exact ⟨l.cb, mem_dirs.2 ⟨l, hl, .inl rfl⟩⟩
theorem dirs_to {n : Nat} {ids : Nat → Int} {L : List Lk} (F : Fits n ids L) {d d' : Dl} (h : d ∈ dirs L) (h' : d' ∈ dirs L) (hv : d.v = d'.v) (hp : d.pv = d'.pv) : d = d' := by
  obtain ⟨l, hl, hle⟩ := mem_dirs.1 h
  obtain ⟨m, hm, hme⟩ := mem_dirs.1 h'
  have hn := (F.ends l hl).2.2
  rcases off_or F.ports l hl m hm with rfl | ⟨o1, o2, o3, o4⟩
  · rcases hle with rfl | rfl <;> rcases hme with rfl | rfl
    · rfl
    · exact absurd hv.symm hn
    · exact absurd hv hn
    · rfl
  · rcases hle with rfl | rfl <;> rcases hme with rfl | rfl
    · exact absurd ⟨hv, hp⟩ o4
    · exact absurd ⟨hv, hp⟩ o3
    · exact absurd ⟨hv, hp⟩ o2
    · exact absurd ⟨hv, hp⟩ o1
theorem dirs_from {n : Nat} {ids : Nat → Int} {L : List Lk} (F : Fits n ids L) {d d' : Dl} (h : d ∈ dirs L) (h' : d' ∈ dirs L) (hv : d.u = d'.u) (hp : d.pu = d'.pu) : d = d' := by
  obtain ⟨c, hb⟩ := dirs_back h
  obtain ⟨c', hb'⟩ := dirs_back h'
  have e := dirs_to F hb hb' hv hp
  unfold Dl.back at e
  injection e with e1 e2 e3 e4 e5
  obtain ⟨u, pu, v, pv, cv⟩ := d
  obtain ⟨u', pu', v', pv', cv'⟩ := d'
  exact dirs_to F h h' e1 e2
/-- What the rows ask of a graph, whole. -/
structure Big (n : Nat) (ids : Nat → Int) (L : List Lk) : Prop where
  fits : Fits n ids L
  few : n ≤ 8
  named : ∀ x, x < n → nameB (ids x) = true
  port : ∀ l ∈ L, 0 ≤ l.pa ∧ l.pa ≤ 5 ∧ 0 ≤ l.pb ∧ l.pb ≤ 5
  cheap : ∀ l ∈ L, l.ca ≤ 1048576 ∧ l.cb ≤ 1048576
structure DlOk (n : Nat) (d : Dl) : Prop where
  u : d.u < n
  v : d.v < n
  ne : d.u ≠ d.v
  pu : 0 ≤ d.pu ∧ d.pu ≤ 5
  pv : 0 ≤ d.pv ∧ d.pv ≤ 5
  cost : 1 ≤ d.cv ∧ d.cv ≤ 1048576
theorem Big.ok {n : Nat} {ids : Nat → Int} {L : List Lk} (K : Big n ids L) {d : Dl} (h : d ∈ dirs L) : DlOk n d := by
  obtain ⟨l, hl, rfl | rfl⟩ := mem_dirs.1 h <;> obtain ⟨e1, e2, e3⟩ := K.fits.ends l hl <;> obtain ⟨c1, c2⟩ := K.fits.costs l hl <;> obtain ⟨p1, p2, p3, p4⟩ := K.port l hl <;> obtain ⟨q1, q2⟩ := K.cheap l hl
  · exact ⟨e1, e2, e3, ⟨p1, p2⟩, ⟨p3, p4⟩, ⟨c2, q2⟩⟩
  · exact ⟨e2, e1, fun e => e3 e.symm, ⟨p3, p4⟩, ⟨p1, p2⟩, ⟨c1, q1⟩⟩
end
section
/- What bridges hold while they hear and say: plain theory for the tree that comes to stand. No program's call, no condition but those that are said. -/
/-- A message on its way to port pv of bridge v. -/
structure Lt where
  due : Int
  v : Nat
  pv : Int
  vec : Vec
  age : Int
/-- What is said comes from a bridge that is there, over a way of its cost. -/
def RealI (n : Nat) (ids : Nat → Int) (L : List Lk) (d : Dl) (v : Vec) (a : Int) : Prop :=
  v.bridge = ids d.u ∧ v.port = d.pu ∧ 0 ≤ a ∧ v.cost ≤ a * 1048576 ∧ ∃ r, r < n ∧ v.root = ids r ∧ Walk (linkE L) r d.u v.cost
/-- Said at s: the later, the more bridges it came through, if it isn't real; and the last word, if who says it holds that. -/
structure Item (n : Nat) (ids : Nat → Int) (L : List Lk) (d : Dl) (s : Int) (v : Vec) (a : Int) : Prop where
  old : ∀ k : Nat, k ≤ 11 → 23 * (k : Int) ≤ s → RealI n ids L d v a ∨ (k : Int) ≤ a
  fin : ∀ r c, Least n ids (linkE L) d.u r c → 280 + 20 * (rk n ids (linkE L) r c : Int) ≤ s → v = ⟨ids r, c, ids d.u, d.pu⟩ ∧ a ≤ rk n ids (linkE L) r c
structure Info (n : Nat) (ids : Nat → Int) (L : List Lk) (d : Dl) (now : Int) (p : Pt) : Prop where
  good : GoodM p.vec p.age
  at1 : p.at_ ≤ now
  at2 : now ≤ p.at_ + 15
  item : ∃ s, s ≤ p.at_ ∧ p.at_ ≤ s + 8 ∧ Item n ids L d s p.vec p.age
/-- What x holds in the end. -/
def finV (n : Nat) (ids : Nat → Int) (L : List Lk) (x : Nat) : Vec := sweeps ids (linkE L) n x
def offF (n : Nat) (ids : Nat → Int) (L : List Lk) (x : Nat) (p : Int) : Vec := offerV (finV n ids L x) (ids x) p
/-- In the end u's word is the better one. -/
def Down (n : Nat) (ids : Nat → Int) (L : List Lk) (d : Dl) : Prop := ltV (offF n ids L d.u d.pu) (offF n ids L d.v d.pv)
structure Sys (n : Nat) (ids : Nat → Int) (L : List Lk) (now : Int) (tk : Nat → Prop) (B : Nat → Nat → Pt) (W : List Lt) : Prop where
  up : ∀ x i, x < n → i < 6 → ((B x i).up = true ↔ ∃ d ∈ dirs L, d.v = x ∧ d.pv = (i : Int))
  way : ∀ d ∈ dirs L, (B d.v d.pv.toNat).way = d.cv
  role : ∀ x i, x < n → i < 6 → (B x i).role = roleP (ids x) 6 (B x) i
  info : ∀ d ∈ dirs L, (B d.v d.pv.toNat).none = false → Info n ids L d now (B d.v d.pv.toNat)
  fresh : ∀ d ∈ dirs L, tk d.v → (B d.v d.pv.toNat).none = false → now ≤ (B d.v d.pv.toNat).at_ + 14
  way_ : ∀ m ∈ W, now ≤ m.due ∧ ∃ d ∈ dirs L, m.v = d.v ∧ m.pv = d.pv ∧ (GoodM m.vec m.age → ∃ s, s < m.due ∧ m.due ≤ s + 8 ∧ s ≤ now ∧ Item n ids L d s m.vec m.age)
  live : ∀ d ∈ dirs L, Down n ids L d → ∀ r c, Least n ids (linkE L) d.u r c → ∀ e : Int, e % 2 = 0 → 280 + 20 * (rk n ids (linkE L) r c : Int) ≤ e → (e < now ∨ e = now ∧ tk d.u) →
    (∃ m ∈ W, m.v = d.v ∧ m.pv = d.pv ∧ GoodM m.vec m.age ∧ e < m.due ∧ m.due ≤ e + 8) ∨ ((B d.v d.pv.toNat).none = false ∧ e < (B d.v d.pv.toNat).at_)

section
variable {n : Nat} {ids : Nat → Int} {L : List Lk} {now : Int} {tk : Nat → Prop} {B : Nat → Nat → Pt} {W : List Lt}
theorem use_iff {id : Int} {h : Hd} : useB id h = true ↔ h.none = false ∧ 0 ≤ h.age ∧ h.age ≤ 9 ∧ nameB h.root = true ∧ h.bridge ≠ id := by
  unfold useB
  cases h.none <;> simp [Bool.and_eq_true, and_assoc]
theorem use_pt {id : Int} {p : Pt} (h : useB id (hdOf p) = true) : p.none = false ∧ p.up = true ∧ 0 ≤ p.age ∧ p.age ≤ 9 := by
  obtain ⟨h1, h2, h3, _⟩ := use_iff.1 h
  have h1 : (p.none || !p.up) = false := h1
  cases h4 : p.none <;> cases h5 : p.up <;> simp_all [hdOf]
theorem walk_to {d : Dl} (hd : d ∈ dirs L) {x r : Nat} {c : Int} (e : d.v = x) (hw : Walk (linkE L) r d.u c) : Walk (linkE L) r x (c + d.cv) := by
  subst e
  exact hw.step (e := d.ed) (dirs_ed hd)
theorem pv_nat (K : Big n ids L) {d : Dl} (hd : d ∈ dirs L) : (d.pv.toNat : Int) = d.pv ∧ d.pv.toNat < 6 := by
  have := (K.ok hd).pv
  omega
theorem pu_nat (K : Big n ids L) {d : Dl} (hd : d ∈ dirs L) : (d.pu.toNat : Int) = d.pu ∧ d.pu.toNat < 6 := by
  have := (K.ok hd).pu
  omega
/-- What is of use was heard over a link. -/
theorem Sys.dir (S : Sys n ids L now tk B W) {x i : Nat} (hx : x < n) (hi : i < 6) {id : Int} (h : useB id (hdOf (B x i)) = true) : ∃ d ∈ dirs L, d.v = x ∧ d.pv.toNat = i ∧ d.pv = (i : Int) := by
  obtain ⟨_, h2, _⟩ := use_pt h
  obtain ⟨d, hd, e1, e2⟩ := (S.up x i hx hi).1 h2
  exact ⟨d, hd, e1, by omega, e2⟩
theorem Sys.up_at (S : Sys n ids L now tk B W) (K : Big n ids L) {d : Dl} (hd : d ∈ dirs L) : (B d.v d.pv.toNat).up = true :=
  (S.up _ _ (K.ok hd).v (pv_nat K hd).2).2 ⟨d, hd, rfl, (pv_nat K hd).1.symm⟩
/-- When junk is gone all that was heard is real. -/
theorem Sys.real (S : Sys n ids L now tk B W) {d : Dl} (hd : d ∈ dirs L) (hn : (B d.v d.pv.toNat).none = false) (ht : 276 ≤ now) : RealI n ids L d (B d.v d.pv.toNat).vec (B d.v d.pv.toNat).age := by
  obtain ⟨hg, _, h2, s, hs1, hs2, hi⟩ := S.info d hd hn
  rcases hi.old 11 (Nat.le_refl _) (by omega) with h | h
  · exact h
  · have := hg.2.2.2.2.2.2.2
    omega
theorem sum_plain {a b : Int} (ha : 0 ≤ a) (ha' : a < 2147483648) (hb : 0 ≤ b) (hb' : b ≤ 16777216) : sumS a b = a + b := by
  unfold sumS
  rw [Int.max_eq_left ha, Int.max_eq_left hb, if_neg (by omega)]
theorem thr_at (K : Big n ids L) (S : Sys n ids L now tk B W) {d : Dl} (hd : d ∈ dirs L) (hn : (B d.v d.pv.toNat).none = false) :
    thr (hdOf (B d.v d.pv.toNat)) = ⟨(B d.v d.pv.toNat).vec.root, (B d.v d.pv.toNat).vec.cost + d.cv, (B d.v d.pv.toNat).vec.bridge, (B d.v d.pv.toNat).vec.port⟩ := by
  have hg := (S.info d hd hn).good
  have hc := (K.ok hd).cost
  show Vec.mk _ (sumS _ (B d.v d.pv.toNat).way) _ _ = _
  rw [S.way d hd]
  rw [show (hdOf (B d.v d.pv.toNat)).vec.cost = (B d.v d.pv.toNat).vec.cost from rfl, sum_plain hg.2.2.1 hg.2.2.2.1 (by omega) (by omega)]
  rfl
theorem fin_rc (G : Graph n ids (linkE L)) {x r : Nat} {c : Int} (hx : x < n) (hl : Least n ids (linkE L) x r c) : (finV n ids L x).root = ids r ∧ (finV n ids L x).cost = c := by
  obtain ⟨r2, c2, hl2, h1, h2, _⟩ := fin_n G (Nat.le_refl n) hx
  obtain ⟨rfl, rfl⟩ := least_one G hl hl2
  exact ⟨h1, h2⟩
theorem fin_own (G : Graph n ids (linkE L)) {x : Nat} {c : Int} (hx : x < n) (hl : Least n ids (linkE L) x x c) : finV n ids L x = ownV (ids x) := by
  obtain ⟨h1, _⟩ := fin_rc G hx hl
  obtain ⟨r, hr, _, hroot, h | ⟨h, _⟩⟩ := real_sweeps G n x hx
  · exact h
  · unfold finV at h1
    omega
theorem adj_root (G : Graph n ids (linkE L)) {d : Dl} (hd : d ∈ dirs L) {r r' : Nat} {c c' : Int} (hu : Least n ids (linkE L) d.u r c) (hv : Least n ids (linkE L) d.v r' c') : r = r' := by
  obtain ⟨cb, hb⟩ := dirs_back hd
  have e1 := (least_step (e := d.ed) (dirs_ed hd) hu hv).1
  have e2 := (least_step (e := (d.back cb).ed) (dirs_ed hb) hv hu).1
  exact G.names _ _ hu.in_ hv.in_ (by omega)
/-- What is heard over a link whose near end holds its last word. -/
theorem Sys.heard (S : Sys n ids L now tk B W) {d : Dl} (hd : d ∈ dirs L) (hw : Down n ids L d) {r : Nat} {c : Int} (hl : Least n ids (linkE L) d.u r c) (ht : 300 + 20 * (rk n ids (linkE L) r c : Int) ≤ now) :
    (B d.v d.pv.toNat).none = false ∧ (B d.v d.pv.toNat).vec = ⟨ids r, c, ids d.u, d.pu⟩ ∧ (B d.v d.pv.toNat).age ≤ rk n ids (linkE L) r c ∧ 0 ≤ (B d.v d.pv.toNat).age := by
  rcases S.live d hd hw r c hl (now - 9 - (now - 9) % 2) (by omega) (by omega) (.inl (by omega)) with ⟨m, hm, _, _, _, _, h⟩ | ⟨hn, ha⟩
  · have := (S.way_ m hm).1
    omega
  · obtain ⟨hg, _, _, s, hs1, hs2, hi⟩ := S.info d hd hn
    obtain ⟨e1, e2⟩ := hi.fin r c hl (by omega)
    exact ⟨hn, e1, e2, hg.2.2.2.2.2.2.1⟩
theorem rk_small (K : Big n ids L) {x r : Nat} {c : Int} (hx : x < n) (hl : Least n ids (linkE L) x r c) : (rk n ids (linkE L) r c : Int) ≤ 7 := by
  have := rk_n K.fits.graph hx hl
  have := K.few
  omega
/-- Who has heard it from all that are nearer holds the last word. -/
theorem Sys.settled (K : Big n ids L) (S : Sys n ids L now tk B W) {x r : Nat} {c : Int} (hx : x < n) (hl : Least n ids (linkE L) x r c) (ht : 280 + 20 * (rk n ids (linkE L) r c : Int) ≤ now) :
    (bestP (ids x) 6 (B x)).1 = finV n ids L x ∧ ageP (ids x) 6 (B x) ≤ rk n ids (linkE L) r c ∧ 0 ≤ ageP (ids x) 6 (B x) := by
  have G := K.fits.graph
  obtain ⟨hbest, hno⟩ := bestP_spec (ids x) 6 (B x)
  have hrk0 : (0 : Int) ≤ rk n ids (linkE L) r c := Int.natCast_nonneg _
  -- what is of use comes over a link, is real, and leads here
  have hcand : ∀ k, k < 6 → Cand (ids x) (hdOf (B x k)) → ∃ d ∈ dirs L, d.v = x ∧ d.pv.toNat = k ∧ d.pv = (k : Int) ∧ (B x k).none = false ∧ RealI n ids L d (B x k).vec (B x k).age ∧ thr (hdOf (B x k)) = ⟨(B x k).vec.root, (B x k).vec.cost + d.cv, ids d.u, d.pu⟩ := fun k hk hc => by
    obtain ⟨d, hd, e1, e2, e3⟩ := S.dir hx hk hc.1
    subst e1 e2
    have hn := (use_pt hc.1).1
    have hr := S.real hd hn (by omega)
    refine ⟨d, hd, rfl, rfl, e3, hn, hr, ?_⟩
    rw [thr_at K S hd hn, hr.1, hr.2.1]
  by_cases hxr : x = r
  · subst hxr
    have hnone : ∀ k, k < 6 → ¬ Cand (ids x) (hdOf (B x k)) := fun k hk hc => by
      obtain ⟨d, hd, e1, e2, _, hn, ⟨_, _, _, _, r', hr', hroot, hw⟩, _⟩ := hcand k hk hc
      have h1 : (B x k).vec.root < ids x := hc.2
      have hwx := walk_to hd e1 hw
      have h2 := hl.least r' _ hr' hwx
      rw [← hroot] at h2
      omega
    rcases hbest with ⟨e, _⟩ | ⟨k, hk, _, hc⟩
    · refine ⟨by rw [e, fin_own G hx hl], ?_⟩
      have : ageP (ids x) 6 (B x) = 0 := by
        unfold ageP
        rw [e]
        exact if_pos (show (-1 : Int) < 0 by decide)
      rw [this]
      exact ⟨hrk0, Int.le_refl _⟩
    · exact absurd hc (hnone k hk)
  · have hlt : ids r < ids x := by
      have h1 := hl.least x 0 hx .nil
      have h2 : ids r ≠ ids x := fun h => hxr (G.names _ _ hl.in_ hx h).symm
      omega
    -- over each link over which the least comes the last word was heard
    have hopt : ∀ d ∈ dirs L, d.v = x → ∀ c', Least n ids (linkE L) d.u r c' → c' + d.cv = c → (B x d.pv.toNat).none = false ∧ Cand (ids x) (hdOf (B x d.pv.toNat)) ∧ thr (hdOf (B x d.pv.toNat)) = ⟨ids r, c, ids d.u, d.pu⟩ ∧ (B x d.pv.toNat).age + 1 ≤ rk n ids (linkE L) r c ∧ 0 ≤ (B x d.pv.toNat).age := fun d hd e c' hl' hs => by
      subst e
      have hcv := (K.ok hd).cost
      have hrk := rk_lt G (K.ok hd).u hl' (show c' < c by omega)
      have hdown : Down n ids L d := by
        unfold Down offF offerV
        obtain ⟨a1, a2⟩ := fin_rc G (K.ok hd).u hl'
        obtain ⟨b1, b2⟩ := fin_rc G hx hl
        exact .inr ⟨by simp only; omega, .inl (by simp only; omega)⟩
      obtain ⟨k1, k2, k3, k4⟩ := S.heard hd hdown hl' (by omega)
      have hsm := rk_small K (K.ok hd).u hl'
      refine ⟨k1, ⟨use_iff.2 ⟨?_, k4, by show (B d.v d.pv.toNat).age ≤ 9; omega, ?_, ?_⟩, ?_⟩, ?_, by omega, k4⟩
      · show ((B d.v d.pv.toNat).none || !(B d.v d.pv.toNat).up) = false
        rw [k1, S.up_at K hd]; rfl
      · show nameB (B d.v d.pv.toNat).vec.root = true
        rw [k2]; exact K.named r hl.in_
      · show (B d.v d.pv.toNat).vec.bridge ≠ ids d.v
        rw [k2]
        exact fun h => (K.ok hd).ne (G.names _ _ (K.ok hd).u hx h)
      · show (B d.v d.pv.toNat).vec.root < ids d.v
        rw [k2]; exact hlt
      · rw [thr_at K S hd k1, k2, hs]
    obtain ⟨e0, he0, hv0, hfin, hl0, _⟩ := lead G (Nat.le_refl n) hx hl hxr
    obtain ⟨d0, hd0, rfl⟩ := ed_dirs he0
    obtain ⟨_, o2, o3, _⟩ := hopt d0 hd0 hv0 _ hl0 (show c - d0.cv + d0.cv = c by omega)
    have hp0 := (pv_nat K hd0).2
    have hnb := hno _ hp0 o2
    rw [o3] at hnb
    rcases hbest with ⟨_, hnc⟩ | ⟨k, hk, e, hc⟩
    · exact absurd o2 (hnc _ hp0)
    · obtain ⟨d, hd, e1, e2, e3, hn, ⟨_, _, _, _, r', hr', hroot, hw⟩, hthr⟩ := hcand k hk hc
      rw [e] at hnb ⊢
      rw [hthr] at hnb ⊢
      simp only at hnb ⊢
      have hw2 := walk_to hd e1 hw
      have g1 := hl.least r' _ hr' hw2
      have hrr : r' = r := G.names _ _ hr' hl.in_ (by
        rw [← hroot] at g1 ⊢
        unfold ltV at hnb
        simp only at hnb
        omega)
      subst hrr
      have g2 := hl.short _ hw2
      have hcost : (B x k).vec.cost + d.cv = c := by
        unfold ltV at hnb
        simp only at hnb
        omega
      have hlu : Least n ids (linkE L) d.u r' (B x k).vec.cost := ⟨hr', hw, fun r2 c2 hr2 hw2 => hl.least r2 _ hr2 (walk_to hd e1 hw2), fun c2 hw2 => by
        have := hl.short _ (walk_to hd e1 hw2)
        omega⟩
      obtain ⟨_, _, _, q4, q5⟩ := hopt d hd e1 _ hlu hcost
      rw [e2] at q4 q5
      refine ⟨?_, ?_⟩
      · obtain ⟨r2, c2, hl2, _, _, hle⟩ := fin_n G (Nat.le_refl n) hx
        obtain ⟨rfl, rfl⟩ := least_one G hl hl2
        have hle := hle d.ed (dirs_ed hd) e1 hlt _ hlu hcost
        have hfin : finV n ids L x = ⟨ids r', c, ids d0.u, d0.pu⟩ := hfin
        rw [hroot, hcost]
        rw [hroot, hcost] at hnb
        rw [hfin]
        have hle : ¬ ltV ⟨ids r', c, ids d.u, d.pu⟩ (finV n ids L x) := hle
        rw [hfin] at hle
        exact ltV_total _ _ hle hnb
      · have : ageP (ids x) 6 (B x) = (B x k).age + 1 := by
          unfold ageP
          rw [e]
          simp only
          rw [if_neg (by omega), Int.toNat_natCast]
        rw [this]
        omega
/-- The better end of a link says its word. -/
theorem Sys.said (K : Big n ids L) (S : Sys n ids L now tk B W) {d : Dl} (hd : d ∈ dirs L) (hw : Down n ids L d) {r : Nat} {c : Int} (hl : Least n ids (linkE L) d.u r c) (ht : 280 + 20 * (rk n ids (linkE L) r c : Int) ≤ now) :
    roleP (ids d.u) 6 (B d.u) d.pu.toNat = 2 := by
  have G := K.fits.graph
  obtain ⟨cb, hb⟩ := dirs_back hd
  have hup : (B d.u d.pu.toNat).up = true := S.up_at K hb
  obtain ⟨pe, p6⟩ := pu_nat K hd
  obtain ⟨hset, _⟩ := S.settled K (K.ok hd).u hl ht
  obtain ⟨rv, cvv, hlv⟩ := least_is G (K.ok hd).v
  have hrr : r = rv := adj_root G hd hl hlv
  subst hrr
  obtain ⟨a1, a2⟩ := fin_rc G (K.ok hd).u hl
  obtain ⟨b1, b2⟩ := fin_rc G (K.ok hd).v hlv
  have hreal : (B d.u d.pu.toNat).none = false → RealI n ids L (d.back cb) (B d.u d.pu.toNat).vec (B d.u d.pu.toNat).age := fun hn => S.real hb hn (by omega)
  unfold Down offF offerV at hw
  rw [a1, a2, b1, b2] at hw
  rw [roleP_up p6 hup, if_neg]
  · unfold roleO
    refine if_neg fun ⟨hu, hnl⟩ => hnl ?_
    obtain ⟨q1, q2, _, _, r', hr', hroot, hwk⟩ := hreal (use_pt hu).1
    rw [hset]
    unfold offerV
    rw [a1, a2, pe]
    show ltV _ (B d.u d.pu.toNat).vec
    have g1 := hlv.least r' _ hr' hwk
    by_cases hr : r' = r
    · subst hr
      have g2 := hlv.short _ hwk
      have q1 : (B d.u d.pu.toNat).vec.bridge = ids d.v := q1
      have q2 : (B d.u d.pu.toNat).vec.port = d.pv := q2
      unfold ltV at hw ⊢
      simp only at hw ⊢
      omega
    · have : ids r' ≠ ids r := fun h => hr (G.names _ _ hr' hl.in_ h)
      exact .inl (by show ids r < (B d.u d.pu.toNat).vec.root; omega)
  · intro hat
    obtain ⟨hbest, _⟩ := bestP_spec (ids d.u) 6 (B d.u)
    rcases hbest with ⟨e, _⟩ | ⟨k, hk, e, hc⟩
    · rw [e] at hat
      have hat : (d.pu.toNat : Int) = -1 := hat
      omega
    · rw [e] at hat
      have hat : (d.pu.toNat : Int) = (k : Int) := hat
      have : k = d.pu.toNat := by omega
      subst this
      have hn := (use_pt hc.1).1
      obtain ⟨q1, q2, _, _, r', hr', hroot, hwk⟩ := hreal hn
      have ht := thr_at K S hb hn
      have ht : thr (hdOf (B d.u d.pu.toNat)) = ⟨(B d.u d.pu.toNat).vec.root, (B d.u d.pu.toNat).vec.cost + cb, (B d.u d.pu.toNat).vec.bridge, (B d.u d.pu.toNat).vec.port⟩ := ht
      rw [e, ht] at hset
      rw [← hset] at a1 a2
      simp only at a1 a2
      have hrr : r' = r := G.names _ _ hr' hl.in_ (hroot.symm.trans a1)
      subst hrr
      have g2 := hlv.short _ hwk
      have hcb := (K.ok hb).cost
      have hcb : 1 ≤ cb := hcb.1
      unfold ltV at hw
      simp only at hw
      omega
end
end
section
/- What a bridge says can be, and what is left of what it heard when it hears nothing more: plain theory. No program's call, no condition but those that are said. -/
section
variable {m : Nat} {id : Int} {f : Nat → Pt}

theorem best_low (id : Int) (m : Nat) (f : Nat → Pt) : (bestP id m f).1.root ≤ id ∧ ((bestP id m f).2 < 0 ↔ (bestP id m f).1.root = id) := by
  obtain ⟨h | h, _⟩ := bestP_spec id m f
  · rw [h.1]
    exact ⟨Int.le_refl _, ⟨fun _ => rfl, fun _ => by show (-1 : Int) < 0; decide⟩⟩
  · obtain ⟨k, _, e, hc⟩ := h
    rw [e]
    have h1 : (hdOf (f k)).root < id := hc.2
    have h2 : (thr (hdOf (f k))).root = (hdOf (f k)).root := rfl
    simp only
    rw [h2]
    exact ⟨by omega, ⟨fun h => by omega, fun h => by omega⟩⟩
theorem age_low (id : Int) (m : Nat) (f : Nat → Pt) : 0 ≤ ageP id m f ∧ ageP id m f ≤ 10 ∧ (ageP id m f = 0 ↔ (bestP id m f).1.root = id) := by
  have hb := best_low id m f
  obtain ⟨h | h, _⟩ := bestP_spec id m f
  · rw [h.1] at hb
    unfold ageP
    rw [h.1]
    have h2 : ((-1 : Int) < 0) := by decide
    rw [if_pos h2]
    exact ⟨Int.le_refl _, by decide, ⟨fun _ => hb.2.1 h2, fun _ => rfl⟩⟩
  · obtain ⟨k, hk, e, hc⟩ := h
    obtain ⟨h1, _, h3, h4⟩ := use_pt hc.1
    rw [e] at hb
    unfold ageP
    rw [e]
    simp only at hb ⊢
    have h5 : ¬ ((k : Int) < 0) := by omega
    rw [if_neg h5, Int.toNat_natCast]
    refine ⟨by omega, by omega, ⟨fun h => by omega, fun h => absurd (hb.2.2 h) h5⟩⟩
/-- What is said can be. -/
theorem said_good (hid : nameB id = true) (hf : ∀ i, i < m → (f i).none = false → GoodM (f i).vec (f i).age ∧ (f i).vec.cost ≤ 1048576) (hw : ∀ i, i < m → 0 ≤ (f i).way ∧ (f i).way ≤ 16777216) {i : Int} (h0 : 0 ≤ i) (h5 : i ≤ 5) :
    GoodM (offerV (bestP id m f).1 id i) (ageP id m f) := by
  obtain ⟨a1, a2, _⟩ := age_low id m f
  obtain ⟨h | h, _⟩ := bestP_spec id m f
  · rw [h.1]
    exact ⟨hid, hid, by show (0 : Int) ≤ 0; decide, by show (0 : Int) < 2147483648; decide, h0, h5, a1, a2⟩
  · obtain ⟨k, hk, e, hc⟩ := h
    obtain ⟨h1, _⟩ := use_pt hc.1
    obtain ⟨hg, hc'⟩ := hf k hk h1
    have hwk := hw k hk
    rw [e]
    have hcost : (thr (hdOf (f k))).cost = (f k).vec.cost + (f k).way := sum_plain hg.2.2.1 hg.2.2.2.1 hwk.1 hwk.2
    refine ⟨hg.1, hid, ?_, ?_, h0, h5, a1, a2⟩
    · show 0 ≤ (thr (hdOf (f k))).cost
      rw [hcost]; have := hg.2.2.1; omega
    · show (thr (hdOf (f k))).cost < 2147483648
      rw [hcost]; omega

/- Ticks in which nothing is heard. -/
/-- k ticks behind t0 in which nothing was heard. -/
structure Lone (m : Nat) (id t0 : Int) (k : Nat) (up : Nat → Bool) (f : Nat → Pt) : Prop where
  up : ∀ i, i < m → (f i).up = up i
  at_ : ∀ i, i < m → (f i).at_ ≤ t0
  role : ∀ i, i < m → (f i).role = roleP id m f i
  since : ∀ i, i < m → (f i).since ≤ t0 + k
  gone : 15 ≤ k → ∀ i, i < m → (f i).none = true ∧ (f i).since ≤ t0 + 15
theorem none_best (h : ∀ i, i < m → (f i).none = true) : bestP id m f = (ownV id, -1) := by
  obtain ⟨h' | h', _⟩ := bestP_spec id m f
  · exact h'.1
  · obtain ⟨k, hk, _, hc⟩ := h'
    have := (use_pt hc.1).1
    rw [h k hk] at this
    cases this
theorem none_role (h : ∀ i, i < m → (f i).none = true) {i : Nat} (hi : i < m) : roleP id m f i = if (f i).up = true then 2 else 0 := by
  by_cases hu : (f i).up = true
  · rw [roleP_up hi hu, if_pos hu, none_best h, if_neg (show ¬ ((i : Int) = -1) by omega)]
    unfold roleO
    refine if_neg fun c => ?_
    have := (use_pt c.1).1
    rw [h i hi] at this
    cases this
  · unfold roleP
    rw [if_neg hu, if_neg hu]
theorem Lone.next {t0 : Int} {k : Nat} {up : Nat → Bool} (h : Lone m id t0 k up f) : Lone m id t0 (k + 1) up (tickP id m (t0 + ((k + 1 : Nat) : Int)) f) := by
  have hd : ∀ i, (tickP id m (t0 + ((k + 1 : Nat) : Int)) f i).up = (f i).up ∧ (tickP id m (t0 + ((k + 1 : Nat) : Int)) f i).at_ = (f i).at_ ∧ (tickP id m (t0 + ((k + 1 : Nat) : Int)) f i).none = (oldP (t0 + ((k + 1 : Nat) : Int)) f i).none := fun i => by
    unfold tickP
    obtain ⟨u1, _, u3, _, _, u6⟩ := anew_up id m (t0 + ((k + 1 : Nat) : Int)) (oldP (t0 + ((k + 1 : Nat) : Int)) f) i
    rw [u1, u3, u6]
    unfold oldP
    split <;> exact ⟨rfl, rfl, rfl⟩
  have hold : ∀ i, (oldP (t0 + ((k + 1 : Nat) : Int)) f i).since = (f i).since ∧ (oldP (t0 + ((k + 1 : Nat) : Int)) f i).role = (f i).role ∧ (oldP (t0 + ((k + 1 : Nat) : Int)) f i).up = (f i).up := fun i => by
    unfold oldP
    split <;> exact ⟨rfl, rfl, rfl⟩
  refine ⟨fun i hi => (hd i).1.trans (h.up i hi), fun i hi => by rw [(hd i).2.1]; exact h.at_ i hi, fun i hi => anew_role _ _ _ _ _ hi, fun i hi => ?_, fun hk i hi => ?_⟩
  · have := h.since i hi
    rcases anew_since id m (t0 + ((k + 1 : Nat) : Int)) (oldP (t0 + ((k + 1 : Nat) : Int)) f) i with e | e
    · show (anewP _ _ _ _ i).since ≤ _
      omega
    · show (anewP _ _ _ _ i).since ≤ _
      rw [e, (hold i).1]
      omega
  · have hnone : ∀ i, i < m → (oldP (t0 + ((k + 1 : Nat) : Int)) f i).none = true := fun i hi => by
      have := h.at_ i hi
      unfold oldP
      rw [if_pos (by omega)]
      rfl
    refine ⟨by rw [(hd i).2.2]; exact hnone i hi, ?_⟩
    have hs := h.since i hi
    rcases anew_since id m (t0 + ((k + 1 : Nat) : Int)) (oldP (t0 + ((k + 1 : Nat) : Int)) f) i with e | e
    · by_cases h15 : k + 1 = 15
      · show (anewP _ _ _ _ i).since ≤ _
        rw [e, h15]
        exact Int.le_refl _
      · have hg := h.gone (by omega)
        have hr : roleP id m (oldP (t0 + ((k + 1 : Nat) : Int)) f) i = (oldP (t0 + ((k + 1 : Nat) : Int)) f i).role := by
          rw [(hold i).2.1, h.role i hi, none_role hnone hi, none_role (fun i hi => (hg i hi).1) hi, (hold i).2.2]
        show (anewP _ _ _ _ i).since ≤ _
        rw [anew_stays _ _ _ _ _ hr, (hold i).1]
        exact (hg i hi).2
    · show (anewP _ _ _ _ i).since ≤ _
      rw [e, (hold i).1]
      by_cases h15 : k + 1 = 15
      · omega
      · exact (h.gone (by omega) i hi).2
theorem Lone.end_ {t0 : Int} {up : Nat → Bool} (h : Lone m id t0 24 up f) : bestP id m f = (ownV id, -1) ∧ ∀ i, i < m → (f i).role = (if up i = true then 2 else 0) ∧ stateP (f i) (t0 + 24) = (if up i = true then 2 else 0) := by
  have hg := h.gone (by decide)
  have hn := fun i hi => (hg i hi).1
  refine ⟨none_best hn, fun i hi => ?_⟩
  have hr : (f i).role = if up i = true then 2 else 0 := by rw [h.role i hi, none_role hn hi, h.up i hi]
  refine ⟨hr, ?_⟩
  have hs := (hg i hi).2
  unfold stateP
  rw [hr]
  by_cases hu : up i = true
  · rw [if_pos hu, if_pos (.inr rfl), if_neg (by omega), if_neg (by omega)]
  · rw [if_neg hu, if_neg (by decide)]
end
end
section
/- The roles in the end, and which links are open then: plain theory for the tree that comes to stand. No program's call, no condition but those that are said. -/
section
variable {n : Nat} {ids : Nat → Int} {L : List Lk} {now : Int} {tk : Nat → Prop} {B : Nat → Nat → Pt} {W : List Lt}

theorem rk_last (K : Big n ids L) {x r : Nat} {c : Int} (hx : x < n) (hl : Least n ids (linkE L) x r c) : 20 * (rk n ids (linkE L) r c : Int) + 20 ≤ 20 * n := by
  have := rk_n K.fits.graph hx hl
  omega
/-- One end's word is the better one. -/
theorem down_or (K : Big n ids L) {d : Dl} (hd : d ∈ dirs L) (c : Int) : Down n ids L d ∨ Down n ids L (d.back c) := by
  by_cases h : ltV (offF n ids L d.u d.pu) (offF n ids L d.v d.pv)
  · exact .inl h
  · by_cases h' : ltV (offF n ids L d.v d.pv) (offF n ids L d.u d.pu)
    · exact .inr h'
    · have e := ltV_total _ _ h h'
      unfold offF offerV at e
      injection e with _ _ e _
      exact absurd (K.fits.names _ _ (K.ok hd).u (K.ok hd).v e) (K.ok hd).ne
theorem down_not {d : Dl} {c : Int} (h : Down n ids L d) : ¬ Down n ids L (d.back c) := fun h' => ltV_irrefl _ (ltV_trans h h')
/-- A link of the tree leads from the better end. -/
theorem leads_down (K : Big n ids L) {d : Dl} (hd : d ∈ dirs L) (h : leadsE ids (finV n ids L) d.ed) : Down n ids L d := by
  have hc := (K.ok hd).cost
  have h1 := h.1
  unfold Down offF offerV
  have e1 : (finV n ids L d.v).root = (finV n ids L d.u).root := by
    have : finV n ids L d.v = _ := h1
    rw [this]; rfl
  have e2 : (finV n ids L d.v).cost = (finV n ids L d.u).cost + d.cv := by
    have : finV n ids L d.v = _ := h1
    rw [this]; rfl
  exact .inr ⟨e1.symm, .inl (by simp only; omega)⟩
/-- The roles in the end: at the far end of a link the root port, if it is of the tree, else an alternate one; at the near end designated. -/
theorem Sys.last (K : Big n ids L) (S : Sys n ids L now tk B W) (ht : 280 + 20 * (n : Int) ≤ now) {d : Dl} (hd : d ∈ dirs L) (hw : Down n ids L d) :
    roleP (ids d.u) 6 (B d.u) d.pu.toNat = 2 ∧ (leadsE ids (finV n ids L) d.ed → roleP (ids d.v) 6 (B d.v) d.pv.toNat = 1) ∧ (¬ leadsE ids (finV n ids L) d.ed → roleP (ids d.v) 6 (B d.v) d.pv.toNat = 3) := by
  have G := K.fits.graph
  obtain ⟨r, c, hl⟩ := least_is G (K.ok hd).u
  obtain ⟨r', c', hlv⟩ := least_is G (K.ok hd).v
  have hk := rk_last K (K.ok hd).u hl
  have hkv := rk_last K (K.ok hd).v hlv
  have hrr : r = r' := adj_root G hd hl hlv
  subst hrr
  refine ⟨S.said K hd hw hl (by omega), ?_⟩
  obtain ⟨h1, h2, h3, h4⟩ := S.heard hd hw hl (by omega)
  obtain ⟨hset, _⟩ := S.settled K (K.ok hd).v hlv (by omega)
  obtain ⟨a1, a2⟩ := fin_rc G (K.ok hd).u hl
  obtain ⟨b1, b2⟩ := fin_rc G (K.ok hd).v hlv
  obtain ⟨pe, p6⟩ := pv_nat K hd
  have hup := S.up_at K hd
  have hsm := rk_small K (K.ok hd).u hl
  have hbridge : (B d.v d.pv.toNat).vec.bridge ≠ ids d.v := by
    rw [h2]
    exact fun h => (K.ok hd).ne (G.names _ _ (K.ok hd).u (K.ok hd).v h)
  have huse : useB (ids d.v) (hdOf (B d.v d.pv.toNat)) = true := by
    refine use_iff.2 ⟨?_, h4, by show (B d.v d.pv.toNat).age ≤ 9; omega, ?_, hbridge⟩
    · show ((B d.v d.pv.toNat).none || !(B d.v d.pv.toNat).up) = false
      rw [h1, hup]; rfl
    · show nameB (B d.v d.pv.toNat).vec.root = true
      rw [h2]; exact K.named r hl.in_
  have hthr := thr_at K S hd h1
  rw [h2] at hthr
  simp only at hthr
  have hcand : candE ids (finV n ids L) d.ed = ⟨ids r, c + d.cv, ids d.u, d.pu⟩ := by
    unfold candE
    rw [show d.ed.u = d.u from rfl, a1, a2]
    rfl
  obtain ⟨hbest, hno⟩ := bestP_spec (ids d.v) 6 (B d.v)
  -- the port of the best
  have hport : ∀ k, k < 6 → bestP (ids d.v) 6 (B d.v) = (thr (hdOf (B d.v k)), (k : Int)) → Cand (ids d.v) (hdOf (B d.v k)) → finV n ids L d.v = candE ids (finV n ids L) d.ed → k = d.pv.toNat := fun k hk e hc hf => by
    obtain ⟨d', hd', e1, e2, e3⟩ := S.dir (K.ok hd).v hk hc.1
    have hn' := (use_pt hc.1).1
    obtain ⟨q1, q2, _⟩ := S.real hd' (by rw [e1, e2]; exact hn') (by omega)
    have ht' := thr_at K S hd' (by rw [e1, e2]; exact hn')
    rw [e1, e2] at q1 q2 ht'
    rw [e] at hset
    have hset : thr (hdOf (B d.v k)) = finV n ids L d.v := hset
    rw [ht', hf, hcand, q1, q2] at hset
    injection hset with _ _ s3 s4
    have : d' = d := dirs_from K.fits hd' hd (G.names _ _ (K.ok hd').u (K.ok hd).u s3) s4
    subst this
    exact e2.symm
  rw [roleP_up p6 hup]
  constructor
  · intro hlead
    refine if_pos ?_
    have hf : finV n ids L d.v = candE ids (finV n ids L) d.ed := hlead.1
    have hroot : ids r < ids d.v := by
      have := hlead.2
      rw [show d.ed.u = d.u from rfl, a1] at this
      exact this
    rcases hbest with ⟨e, hnc⟩ | ⟨k, hk, e, hc⟩
    · exact absurd ⟨huse, by show (B d.v d.pv.toNat).vec.root < ids d.v; rw [h2]; exact hroot⟩ (hnc _ p6)
    · rw [e]
      show (d.pv.toNat : Int) = (k : Int)
      rw [hport k hk e hc hf]
  · intro hlead
    rw [if_neg]
    · unfold roleO
      refine if_pos ⟨huse, ?_⟩
      rw [hset, pe]
      show ¬ ltV (offF n ids L d.v d.pv) (B d.v d.pv.toNat).vec
      rw [h2]
      intro hlt
      have hoff : offF n ids L d.u d.pu = ⟨ids r, c, ids d.u, d.pu⟩ := by
        unfold offF offerV
        rw [a1, a2]
      unfold Down at hw
      rw [hoff] at hw
      exact ltV_irrefl _ (ltV_trans hw hlt)
    · intro hat
      rcases hbest with ⟨e, _⟩ | ⟨k, hk, e, hc⟩
      · rw [e] at hat
        have hat : (d.pv.toNat : Int) = -1 := hat
        omega
      · rw [e] at hat
        have hat : (d.pv.toNat : Int) = (k : Int) := hat
        have : k = d.pv.toNat := by omega
        subst this
        rw [e] at hset
        have hset : thr (hdOf (B d.v d.pv.toNat)) = finV n ids L d.v := hset
        have hcr : (B d.v d.pv.toNat).vec.root < ids d.v := hc.2
        rw [h2] at hcr
        refine hlead ⟨?_, ?_⟩
        · show finV n ids L d.v = _
          rw [← hset, hthr, hcand]
        · show (finV n ids L d.u).root < ids d.v
          rw [a1]
          exact hcr
open Classical in
/-- The role in the end, of any port. -/
noncomputable def finR (n : Nat) (ids : Nat → Int) (L : List Lk) (x : Nat) (i : Nat) : Int :=
  if ∃ d ∈ dirs L, d.v = x ∧ d.pv = (i : Int) ∧ leadsE ids (finV n ids L) d.ed then 1
  else if ∃ d ∈ dirs L, d.v = x ∧ d.pv = (i : Int) ∧ Down n ids L d then 3
  else if ∃ d ∈ dirs L, d.v = x ∧ d.pv = (i : Int) then 2 else 0
theorem Sys.finR_is (K : Big n ids L) (S : Sys n ids L now tk B W) (ht : 280 + 20 * (n : Int) ≤ now) {x i : Nat} (hx : x < n) (hi : i < 6) : (B x i).role = finR n ids L x i := by
  rw [S.role x i hx hi]
  unfold finR
  by_cases h0 : ∃ d ∈ dirs L, d.v = x ∧ d.pv = (i : Int)
  · obtain ⟨d, hd, rfl, e⟩ := h0
    have ei : d.pv.toNat = i := by omega
    subst ei
    have one : ∀ {P : Dl → Prop}, (∃ d' ∈ dirs L, d'.v = d.v ∧ d'.pv = (d.pv.toNat : Int) ∧ P d') ↔ P d := fun {P} => ⟨fun ⟨d', hd', e1, e2, h⟩ => by
      have : d' = d := dirs_to K.fits hd' hd e1 (e2.trans e.symm)
      rwa [this] at h, fun h => ⟨d, hd, rfl, e, h⟩⟩
    by_cases hl : leadsE ids (finV n ids L) d.ed
    · rw [if_pos (one.2 hl)]
      exact (S.last K ht hd (leads_down K hd hl)).2.1 hl
    · rw [if_neg fun h => hl (one.1 h)]
      by_cases hw : Down n ids L d
      · rw [if_pos (one.2 hw)]
        exact (S.last K ht hd hw).2.2 hl
      · rw [if_neg fun h => hw (one.1 h), if_pos ⟨d, hd, rfl, e⟩]
        obtain ⟨c, hb⟩ := dirs_back hd
        rcases down_or K hd c with h | h
        · exact absurd h hw
        · exact (S.last K ht hb h).1
  · rw [if_neg fun ⟨d, hd, e1, e2, _⟩ => h0 ⟨d, hd, e1, e2⟩, if_neg fun ⟨d, hd, e1, e2, _⟩ => h0 ⟨d, hd, e1, e2⟩, if_neg h0]
    unfold roleP
    refine if_neg fun h => h0 ((S.up x i hx hi).1 h)
/-- Since when: no later than now, nor than when the roles are the last ones. -/
def Since (n : Nat) (now : Int) (B : Nat → Nat → Pt) : Prop := ∀ x i, x < n → i < 6 → (B x i).since ≤ now ∧ (280 + 20 * (n : Int) ≤ now → (B x i).since ≤ 280 + 20 * (n : Int))
/-- Just the links of the tree are open at both ends. -/
theorem Sys.open_ (K : Big n ids L) (S : Sys n ids L now tk B W) (T : Since n now B) (ht : 288 + 20 * (n : Int) ≤ now) {l : Lk} (hl : l ∈ L) :
    (stateP (B l.a l.pa.toNat) now = 2 ∧ stateP (B l.b l.pb.toNat) now = 2) ↔ isT ids (finV n ids L) l := by
  have h1 : l.d1 ∈ dirs L := mem_dirs.2 ⟨l, hl, .inl rfl⟩
  have h2 : l.d2 ∈ dirs L := mem_dirs.2 ⟨l, hl, .inr rfl⟩
  have state2 : ∀ {d : Dl}, d ∈ dirs L → (roleP (ids d.v) 6 (B d.v) d.pv.toNat = 1 ∨ roleP (ids d.v) 6 (B d.v) d.pv.toNat = 2) → stateP (B d.v d.pv.toNat) now = 2 := fun {d} hd h => by
    have hs := (T _ _ (K.ok hd).v (pv_nat K hd).2).2 (by omega)
    unfold stateP
    rw [S.role _ _ (K.ok hd).v (pv_nat K hd).2, if_pos h, if_neg (by omega), if_neg (by omega)]
  have state0 : ∀ {d : Dl}, d ∈ dirs L → roleP (ids d.v) 6 (B d.v) d.pv.toNat = 3 → stateP (B d.v d.pv.toNat) now ≠ 2 := fun {d} hd h => by
    unfold stateP
    rw [S.role _ _ (K.ok hd).v (pv_nat K hd).2, h, if_neg (by decide)]
    decide
  have key : ∀ {d : Dl} {c : Int}, d ∈ dirs L → d.back c ∈ dirs L → Down n ids L d → ((stateP (B d.u d.pu.toNat) now = 2 ∧ stateP (B d.v d.pv.toNat) now = 2) ↔ leadsE ids (finV n ids L) d.ed) := fun {d c} hd hb hw => by
    obtain ⟨a, b1, b2⟩ := S.last K (by omega) hd hw
    constructor
    · intro ⟨_, h⟩
      by_cases hle : leadsE ids (finV n ids L) d.ed
      · exact hle
      · exact absurd h (state0 hd (b2 hle))
    · intro h
      exact ⟨state2 hb (.inr a), state2 hd (.inl (b1 h))⟩
  unfold isT
  rcases down_or K h1 l.ca with h | h
  · have k := key (c := l.ca) h1 h2 h
    have k : (stateP (B l.a l.pa.toNat) now = 2 ∧ stateP (B l.b l.pb.toNat) now = 2) ↔ leadsE ids (finV n ids L) l.e1 := k
    rw [k]
    exact ⟨.inl, fun h' => h'.elim id fun h' => absurd (leads_down K h2 h') (down_not (c := l.ca) h)⟩
  · have h : Down n ids L l.d2 := h
    have k := key (c := l.cb) h2 h1 h
    have k : (stateP (B l.b l.pb.toNat) now = 2 ∧ stateP (B l.a l.pa.toNat) now = 2) ↔ leadsE ids (finV n ids L) l.e2 := k
    rw [And.comm, k]
    exact ⟨.inr, fun h' => h'.elim (fun h' => absurd (leads_down K h1 h') (down_not (c := l.cb) h)) id⟩
end
end
section
/- What hearing, ticking and saying leave of what bridges hold: plain theory for the tree that comes to stand. No program's call, no condition but those that are said. -/
def updB (B : Nat → Nat → Pt) (x : Nat) (f : Nat → Pt) : Nat → Nat → Pt := fun y => if y = x then f else B y
section
variable {n : Nat} {ids : Nat → Int} {L : List Lk} {now : Int} {tk : Nat → Prop} {B : Nat → Nat → Pt} {W : List Lt}
theorem updB_at (B : Nat → Nat → Pt) (x : Nat) (f : Nat → Pt) : updB B x f x = f := if_pos rfl
theorem updB_ne (B : Nat → Nat → Pt) {x y : Nat} (f : Nat → Pt) (h : y ≠ x) : updB B x f y = B y := if_neg h
theorem updP_at (f : Nat → Pt) (i : Nat) (p : Pt) : updP f i p i = p := if_pos rfl
theorem updP_ne (f : Nat → Pt) {i j : Nat} (p : Pt) (h : j ≠ i) : updP f i p j = f j := if_neg h

/-- At first. -/
theorem sys_start (hup : ∀ x i, x < n → i < 6 → ((B x i).up = true ↔ ∃ d ∈ dirs L, d.v = x ∧ d.pv = (i : Int))) (hway : ∀ d ∈ dirs L, (B d.v d.pv.toNat).way = d.cv)
    (hrole : ∀ x i, x < n → i < 6 → (B x i).role = roleP (ids x) 6 (B x) i) (hinfo : ∀ d ∈ dirs L, (B d.v d.pv.toNat).none = false → GoodM (B d.v d.pv.toNat).vec (B d.v d.pv.toNat).age ∧ (B d.v d.pv.toNat).at_ = 0) :
    Sys n ids L 1 (fun _ => False) B [] where
  up := hup
  way := hway
  role := hrole
  info d hd hn := by
    obtain ⟨h1, h2⟩ := hinfo d hd hn
    refine ⟨h1, by omega, by omega, 0, by omega, by omega, fun k hk h => ?_, fun r c hl h => ?_⟩
    · have := h1.2.2.2.2.2.2.1
      exact .inr (by omega)
    · have : (0 : Int) ≤ rk n ids (linkE L) r c := Int.natCast_nonneg _
      omega
  fresh d _ h := h.elim
  way_ m hm := by cases hm
  live d hd hw r c hl e h1 h2 h3 := by
    have : (0 : Int) ≤ rk n ids (linkE L) r c := Int.natCast_nonneg _
    rcases h3 with h | h
    · omega
    · exact h.2.elim
/-- From one tick to the next one. -/
theorem Sys.next (K : Big n ids L) (S : Sys n ids L now tk B W) (hall : ∀ x, x < n → tk x) (hdue : ∀ m ∈ W, now < m.due) : Sys n ids L (now + 1) (fun _ => False) B W where
  up := S.up
  way := S.way
  role := S.role
  info d hd hn := by
    obtain ⟨h1, h2, h3, h4⟩ := S.info d hd hn
    have := S.fresh d hd (hall _ (K.ok hd).v) hn
    exact ⟨h1, by omega, by omega, h4⟩
  fresh d _ h := h.elim
  way_ m hm := by
    obtain ⟨_, d, hd, e1, e2, h⟩ := S.way_ m hm
    refine ⟨by have := hdue m hm; omega, d, hd, e1, e2, fun hg => ?_⟩
    obtain ⟨s, s1, s2, s3, s4⟩ := h hg
    exact ⟨s, s1, s2, by omega, s4⟩
  live d hd hw r c hl e h1 h2 h3 := by
    refine S.live d hd hw r c hl e h1 h2 ?_
    rcases h3 with h | h
    · by_cases e' : e = now
      · exact .inr ⟨e', hall _ (K.ok hd).u⟩
      · exact .inl (by omega)
    · exact h.2.elim
/-- A message that can't be is refused. -/
theorem Sys.refuse (S : Sys n ids L now tk B W) {W' : List Lt} {m : Lt} (hg : ¬ GoodM m.vec m.age) (hsub : ∀ x ∈ W', x ∈ W) (hsup : ∀ x ∈ W, x = m ∨ x ∈ W') : Sys n ids L now tk B W' where
  up := S.up
  way := S.way
  role := S.role
  info := S.info
  fresh := S.fresh
  way_ x hx := S.way_ x (hsub x hx)
  live d hd hw r c hl e h1 h2 h3 := by
    rcases S.live d hd hw r c hl e h1 h2 h3 with ⟨x, hx, a, b, hgx, h⟩ | h
    · rcases hsup x hx with rfl | hx'
      · exact absurd hgx hg
      · exact .inl ⟨x, hx', a, b, hgx, h⟩
    · exact .inr h
/-- A message is heard. -/
theorem Sys.hear (K : Big n ids L) (S : Sys n ids L now tk B W) (htk : ∀ x, ¬ tk x) {W' : List Lt} {m : Lt} (hm : m ∈ W) (hdue : m.due = now) (hg : GoodM m.vec m.age) (hsub : ∀ x ∈ W', x ∈ W) (hsup : ∀ x ∈ W, x = m ∨ x ∈ W') :
    Sys n ids L now tk (updB B m.v (hearP (ids m.v) 6 now (B m.v) m.pv.toNat m.vec m.age)) W' := by
  obtain ⟨_, d0, hd0, e1, e2, hs⟩ := S.way_ m hm
  obtain ⟨s, s1, s2, s3, s4⟩ := hs hg
  obtain ⟨pe, p6⟩ := pv_nat K hd0
  -- what a port is then
  have hat : ∀ d ∈ dirs L, (d = d0 ∧ (updB B m.v (hearP (ids m.v) 6 now (B m.v) m.pv.toNat m.vec m.age) d.v d.pv.toNat).none = false ∧ (updB B m.v (hearP (ids m.v) 6 now (B m.v) m.pv.toNat m.vec m.age) d.v d.pv.toNat).vec = m.vec ∧ (updB B m.v (hearP (ids m.v) 6 now (B m.v) m.pv.toNat m.vec m.age) d.v d.pv.toNat).age = m.age ∧ (updB B m.v (hearP (ids m.v) 6 now (B m.v) m.pv.toNat m.vec m.age) d.v d.pv.toNat).at_ = now) ∨
      ((updB B m.v (hearP (ids m.v) 6 now (B m.v) m.pv.toNat m.vec m.age) d.v d.pv.toNat).none = (B d.v d.pv.toNat).none ∧ (updB B m.v (hearP (ids m.v) 6 now (B m.v) m.pv.toNat m.vec m.age) d.v d.pv.toNat).vec = (B d.v d.pv.toNat).vec ∧ (updB B m.v (hearP (ids m.v) 6 now (B m.v) m.pv.toNat m.vec m.age) d.v d.pv.toNat).age = (B d.v d.pv.toNat).age ∧ (updB B m.v (hearP (ids m.v) 6 now (B m.v) m.pv.toNat m.vec m.age) d.v d.pv.toNat).at_ = (B d.v d.pv.toNat).at_) := fun d hd => by
    by_cases ev : d.v = m.v
    · rw [ev, updB_at]
      unfold hearP
      obtain ⟨_, _, u1, u2, u3, u4⟩ := anew_up (ids m.v) 6 now (updP (B m.v) m.pv.toNat (gotP (B m.v m.pv.toNat) m.vec m.age now)) d.pv.toNat
      rw [u1, u2, u3, u4]
      by_cases ep : d.pv.toNat = m.pv.toNat
      · refine .inl ⟨?_, ?_⟩
        · have := (pv_nat K hd).1
          exact dirs_to K.fits hd hd0 (by rw [ev, e1]) (by rw [e2] at ep; omega)
        · rw [ep, updP_at]
          exact ⟨rfl, rfl, rfl, rfl⟩
      · rw [updP_ne _ _ ep]
        exact .inr ⟨rfl, rfl, rfl, rfl⟩
    · rw [updB_ne _ _ ev]
      exact .inr ⟨rfl, rfl, rfl, rfl⟩
  have hst : ∀ x i, (updB B m.v (hearP (ids m.v) 6 now (B m.v) m.pv.toNat m.vec m.age) x i).up = (B x i).up ∧ (updB B m.v (hearP (ids m.v) 6 now (B m.v) m.pv.toNat m.vec m.age) x i).way = (B x i).way := fun x i => by
    by_cases ev : x = m.v
    · subst ev
      rw [updB_at]
      unfold hearP
      obtain ⟨u1, u2, _⟩ := anew_up (ids m.v) 6 now (updP (B m.v) m.pv.toNat (gotP (B m.v m.pv.toNat) m.vec m.age now)) i
      rw [u1, u2]
      by_cases ep : i = m.pv.toNat
      · subst ep; rw [updP_at]; exact ⟨rfl, rfl⟩
      · rw [updP_ne _ _ ep]; exact ⟨rfl, rfl⟩
    · rw [updB_ne _ _ ev]; exact ⟨rfl, rfl⟩
  constructor
  · intro x i hx hi
    rw [(hst x i).1]
    exact S.up x i hx hi
  · intro d hd
    rw [(hst _ _).2]
    exact S.way d hd
  · intro x i hx hi
    by_cases ev : x = m.v
    · subst ev
      rw [updB_at]
      exact anew_role _ _ _ _ _ hi
    · rw [updB_ne _ _ ev]
      exact S.role x i hx hi
  · intro d hd hn
    rcases hat d hd with ⟨rfl, _, h2, h3, h4⟩ | ⟨h1, h2, h3, h4⟩
    · refine ⟨by rw [h2, h3]; exact hg, by omega, by omega, s, by omega, by omega, ?_⟩
      rw [h2, h3]
      exact s4
    · obtain ⟨k1, k2, k3, s', k4, k5, k6⟩ := S.info d hd (by rw [← h1]; exact hn)
      exact ⟨by rw [h2, h3]; exact k1, by omega, by omega, s', by omega, by omega, by rw [h2, h3]; exact k6⟩
  · intro d hd h
    exact absurd h (htk _)
  · intro x hx
    exact S.way_ x (hsub x hx)
  · intro d hd hw r c hl e h1 h2 h3
    have hlt : e < now := by
      rcases h3 with h | h
      · exact h
      · exact absurd h.2 (htk _)
    rcases S.live d hd hw r c hl e h1 h2 h3 with ⟨x, hx, a, b, hgx, h⟩ | ⟨h, h'⟩
    · rcases hsup x hx with rfl | hx'
      · rcases hat d hd with ⟨_, k1, _, _, k4⟩ | ⟨_, _, _, _⟩
        · exact .inr ⟨k1, by omega⟩
        · have : d = d0 := dirs_to K.fits hd hd0 (by rw [← a, e1]) (by rw [← b, e2])
          subst this
          rw [a, b]
          refine .inr ⟨?_, ?_⟩
          · rw [updB_at]
            unfold hearP
            rw [(anew_up _ _ _ _ _).2.2.1, updP_at]
            rfl
          · rw [updB_at]
            unfold hearP
            rw [(anew_up _ _ _ _ _).2.2.2.2.2, updP_at]
            exact hlt
      · exact .inl ⟨x, hx', a, b, hgx, h⟩
    · rcases hat d hd with ⟨_, k1, _, _, k4⟩ | ⟨k1, _, _, k4⟩
      · exact .inr ⟨k1, by omega⟩
      · exact .inr ⟨by rw [k1]; exact h, by rw [k4]; exact h'⟩
/-- What is too old is forgotten, and roles are anew. -/
theorem Sys.tick (S : Sys n ids L now tk B W) {x : Nat} :
    Sys n ids L now tk (updB B x (tickP (ids x) 6 now (B x))) W ∧ (∀ d ∈ dirs L, d.v = x → (updB B x (tickP (ids x) 6 now (B x)) d.v d.pv.toNat).none = false → now ≤ (updB B x (tickP (ids x) 6 now (B x)) d.v d.pv.toNat).at_ + 14) := by
  have hst : ∀ y i, (updB B x (tickP (ids x) 6 now (B x)) y i).up = (B y i).up ∧ (updB B x (tickP (ids x) 6 now (B x)) y i).way = (B y i).way ∧ ((updB B x (tickP (ids x) 6 now (B x)) y i).none = false → (updB B x (tickP (ids x) 6 now (B x)) y i).vec = (B y i).vec ∧ (updB B x (tickP (ids x) 6 now (B x)) y i).age = (B y i).age) ∧ (updB B x (tickP (ids x) 6 now (B x)) y i).at_ = (B y i).at_ ∧
      ((updB B x (tickP (ids x) 6 now (B x)) y i).none = false → (B y i).none = false ∧ (y = x → now ≤ (B y i).at_ + 14)) ∧ ((B y i).none = false → now ≤ (B y i).at_ + 14 → (updB B x (tickP (ids x) 6 now (B x)) y i).none = false) := fun y i => by
    by_cases ev : y = x
    · subst ev
      rw [updB_at]
      unfold tickP
      obtain ⟨u1, u2, u3, u4, u5, u6⟩ := anew_up (ids y) 6 now (oldP now (B y)) i
      rw [u1, u2, u3, u4, u5, u6]
      unfold oldP
      by_cases h : 14 < now - (B y i).at_
      · rw [if_pos h]
        exact ⟨rfl, rfl, fun h => (by cases h), rfl, fun h => (by cases h), fun _ h' => by omega⟩
      · rw [if_neg h]
        exact ⟨rfl, rfl, fun _ => ⟨rfl, rfl⟩, rfl, fun h' => ⟨h', fun _ => by omega⟩, fun h' _ => h'⟩
    · rw [updB_ne _ _ ev]
      exact ⟨rfl, rfl, fun _ => ⟨rfl, rfl⟩, rfl, fun h => ⟨h, fun e => absurd e ev⟩, fun h _ => h⟩
  refine ⟨⟨?_, ?_, ?_, ?_, ?_, S.way_, ?_⟩, ?_⟩
  · intro y i hy hi
    rw [(hst y i).1]
    exact S.up y i hy hi
  · intro d hd
    rw [(hst _ _).2.1]
    exact S.way d hd
  · intro y i hy hi
    by_cases ev : y = x
    · subst ev
      rw [updB_at]
      exact anew_role _ _ _ _ _ hi
    · rw [updB_ne _ _ ev]
      exact S.role y i hy hi
  · intro d hd hn
    obtain ⟨_, _, h23, h4, h5, _⟩ := hst d.v d.pv.toNat
    obtain ⟨h2, h3⟩ := h23 hn
    obtain ⟨k1, k2, k3, s', k4, k5, k6⟩ := S.info d hd (h5 hn).1
    exact ⟨by rw [h2, h3]; exact k1, by omega, by omega, s', by omega, by omega, by rw [h2, h3]; exact k6⟩
  · intro d hd ht hn
    obtain ⟨_, _, _, h4, h5, _⟩ := hst d.v d.pv.toNat
    rw [h4]
    exact S.fresh d hd ht (h5 hn).1
  · intro d hd hw r c hl e h1 h2 h3
    obtain ⟨_, _, _, h4, _, h6⟩ := hst d.v d.pv.toNat
    rcases S.live d hd hw r c hl e h1 h2 h3 with h | ⟨ha, hb⟩
    · exact .inl h
    · by_cases hfar : now ≤ e + 14
      · exact .inr ⟨h6 ha (by omega), by omega⟩
      · rcases S.live d hd hw r c hl (now - 9 - (now - 9) % 2) (by omega) (by omega) (.inl (by omega)) with ⟨m, hm, _, _, _, _, h⟩ | ⟨hn, hn'⟩
        · have := (S.way_ m hm).1
          omega
        · exact .inr ⟨h6 hn (by omega), by omega⟩
  · intro d hd ev hn
    obtain ⟨_, _, _, h4, h5, _⟩ := hst d.v d.pv.toNat
    rw [h4]
    exact (h5 hn).2 ev
/-- What a bridge says is on its way. -/
theorem Sys.say (K : Big n ids L) (S : Sys n ids L now tk B W) {x : Nat} (hx : x < n) (hf : ∀ d ∈ dirs L, d.v = x → (B d.v d.pv.toNat).none = false → now ≤ (B d.v d.pv.toNat).at_ + 14) {W' : List Lt}
    (hW : ∀ m ∈ W, m ∈ W') (hN1 : ∀ m ∈ W', m ∈ W ∨ ∃ d ∈ dirs L, d.u = x ∧ m.v = d.v ∧ m.pv = d.pv ∧ m.vec = offerV (bestP (ids x) 6 (B x)).1 (ids x) d.pu ∧ m.age = ageP (ids x) 6 (B x) ∧ now < m.due ∧ m.due ≤ now + 8)
    (hN2 : now % 2 = 0 → ∀ d ∈ dirs L, d.u = x → (B x d.pu.toNat).role = 2 → ∃ m ∈ W', m.v = d.v ∧ m.pv = d.pv ∧ m.vec = offerV (bestP (ids x) 6 (B x)).1 (ids x) d.pu ∧ m.age = ageP (ids x) 6 (B x) ∧ now < m.due ∧ m.due ≤ now + 8) :
    Sys n ids L now (fun y => tk y ∨ y = x) B W' := by
  have G := K.fits.graph
  -- what is said is as good as what was heard
  have hitem : ∀ d ∈ dirs L, d.u = x → 0 ≤ ageP (ids x) 6 (B x) → Item n ids L d now (offerV (bestP (ids x) 6 (B x)).1 (ids x) d.pu) (ageP (ids x) 6 (B x)) := fun d hd hu h0 => by
    constructor
    · intro k hk hkn
      cases k with
      | zero => exact .inr h0
      | succ k =>
        obtain ⟨hbest, _⟩ := bestP_spec (ids x) 6 (B x)
        rcases hbest with ⟨e, _⟩ | ⟨j, hj, e, hc⟩
        · refine .inl ⟨by rw [hu]; rfl, rfl, h0, ?_, x, hx, ?_, ?_⟩
          · rw [e]
            show (0 : Int) ≤ _
            omega
          · rw [e]; rfl
          · rw [e, hu]; exact .nil
        · obtain ⟨dj, hdj, e1, e2, e3⟩ := S.dir hx hj hc.1
          subst e1 e2
          have hn := (use_pt hc.1).1
          obtain ⟨hg, a1, a2, s, s1, s2, hi⟩ := S.info dj hdj hn
          have a3 := hf dj hdj rfl hn
          have hage : ageP (ids dj.v) 6 (B dj.v) = (B dj.v dj.pv.toNat).age + 1 := by
            unfold ageP
            rw [e]
            simp only
            rw [if_neg (by omega), Int.toNat_natCast]
          have hthr := thr_at K S hdj hn
          have hcv := (K.ok hdj).cost
          rw [hage]
          rcases hi.old k (by omega) (by omega) with ⟨q1, q2, q3, q4, r, hr, q5, q6⟩ | hk'
          · refine .inl ⟨by rw [hu]; rfl, rfl, by omega, ?_, r, hr, ?_, ?_⟩
            · rw [e, hthr]
              show (B dj.v dj.pv.toNat).vec.cost + dj.cv ≤ _
              omega
            · rw [e, hthr]
              exact q5
            · rw [e, hthr, hu]
              exact walk_to hdj rfl q6
          · exact .inr (by omega)
    · intro r c hl ht
      rw [hu] at hl ⊢
      obtain ⟨b1, b2, _⟩ := S.settled K hx hl ht
      obtain ⟨f1, f2⟩ := fin_rc G hx hl
      refine ⟨?_, b2⟩
      rw [b1]
      unfold offerV
      rw [f1, f2]
  refine ⟨S.up, S.way, S.role, S.info, ?_, ?_, ?_⟩
  · intro d hd ht hn
    rcases ht with ht | ht
    · exact S.fresh d hd ht hn
    · exact hf d hd ht hn
  · intro m hm
    rcases hN1 m hm with h | ⟨d, hd, hu, e1, e2, e3, e4, e5, e6⟩
    · exact S.way_ m h
    · refine ⟨by omega, d, hd, e1, e2, fun hg => ⟨now, e5, e6, Int.le_refl _, ?_⟩⟩
      rw [e3, e4]
      refine hitem d hd hu ?_
      rw [← e4]
      exact hg.2.2.2.2.2.2.1
  · intro d hd hw r c hl e h1 h2 h3
    have old : (e < now ∨ e = now ∧ tk d.u) → (∃ m ∈ W', m.v = d.v ∧ m.pv = d.pv ∧ GoodM m.vec m.age ∧ e < m.due ∧ m.due ≤ e + 8) ∨ ((B d.v d.pv.toNat).none = false ∧ e < (B d.v d.pv.toNat).at_) := fun h => by
      rcases S.live d hd hw r c hl e h1 h2 h with ⟨m, hm, h⟩ | h
      · exact .inl ⟨m, hW m hm, h⟩
      · exact .inr h
    rcases h3 with h | ⟨rfl, ht | hu⟩
    · exact old (.inl h)
    · exact old (.inr ⟨rfl, ht⟩)
    · have hrole : (B x d.pu.toNat).role = 2 := by
        rw [S.role x _ hx (pu_nat K hd).2, ← hu]
        exact S.said K hd hw hl h2
      obtain ⟨m, hm, m1, m2, m3, m4, m5, m6⟩ := hN2 h1 d hd hu hrole
      refine .inl ⟨m, hm, m1, m2, ?_, m5, m6⟩
      have hl' := hl
      rw [hu] at hl'
      obtain ⟨b1, b2, b3⟩ := S.settled K hx hl' h2
      have hi := hitem d hd hu b3
      have hsm := rk_small K hx hl'
      have hz : (0 : Int) ≤ rk n ids (linkE L) r c := Int.natCast_nonneg _
      obtain ⟨q1, q2, q3, q4, r', hr', q5, q6⟩ : RealI n ids L d (offerV (bestP (ids x) 6 (B x)).1 (ids x) d.pu) (ageP (ids x) 6 (B x)) := by
        rcases hi.old 11 (Nat.le_refl _) (by omega) with h | h
        · exact h
        · omega
      have hp := (K.ok hd).pu
      rw [m3, m4]
      refine ⟨by rw [q5]; exact K.named _ hr', by rw [q1]; exact K.named _ (K.ok hd).u, (q6.in_ G hr').2, by omega, by rw [q2]; exact hp.1, by rw [q2]; exact hp.2, q3, by omega⟩
/-- Since when, behind one more step at one bridge. -/
theorem since_step (K : Big n ids L) {tk' : Nat → Prop} {W' : List Lt} (S : Sys n ids L now tk B W) (T : Since n now B) {x : Nat} (g : Nat → Pt) (hg : ∀ i, (g i).role = (B x i).role ∧ (g i).since = (B x i).since)
    (S' : Sys n ids L now tk' (updB B x (anewP (ids x) 6 now g)) W') : Since n now (updB B x (anewP (ids x) 6 now g)) := fun y i hy hi => by
  by_cases ev : y = x
  · subst ev
    have hold := T y i hy hi
    have hr1 := fun ht => S.finR_is K ht hy hi
    have hr2 := fun ht => S'.finR_is K ht hy hi
    rw [updB_at] at hr2 ⊢
    rcases anew_since (ids y) 6 now g i with h | h
    · refine ⟨by omega, fun ht => ?_⟩
      by_cases hF : now = 280 + 20 * (n : Int)
      · omega
      · have h1 := hr1 ht
        have h2 := hr2 ht
        have hst : anewP (ids y) 6 now g i = g i := by
          unfold anewP at h2 ⊢
          by_cases c : i < 6 ∧ roleP (ids y) 6 g i ≠ (g i).role
          · rw [if_pos c] at h2
            have h2 : roleP (ids y) 6 g i = finR n ids L y i := h2
            exact absurd (h2.trans (h1.symm.trans (hg i).1.symm)) c.2
          · rw [if_neg c]
        rw [hst, (hg i).2]
        exact hold.2 ht
    · rw [h, (hg i).2]
      exact hold
  · rw [updB_ne _ _ ev]
    exact T y i hy hi
theorem Since.next (T : Since n now B) : Since n (now + 1) B := fun x i hx hi => by
  have h := T x i hx hi
  refine ⟨by omega, fun ht => ?_⟩
  by_cases hF : 280 + 20 * (n : Int) ≤ now
  · exact h.2 hF
  · omega
end
end
end Go.Proofs.Ytadejdhdkkfliaa
