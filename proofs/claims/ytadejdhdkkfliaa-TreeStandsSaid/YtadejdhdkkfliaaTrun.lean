/- Letters on their way, as data; what is so of all bridges and letters while bridges hear, tick and say. No program's call, no condition but those that are said. -/
import Derived.Test.YtadejdhdkkfliaaTworld
import Derived.Test.YtadejdhdkkfliaaLfar
namespace Go.Proofs.Ytadejdhdkkfliaa
set_option maxRecDepth 100000

/-- A letter: when it is due, where it goes, and what it says. -/
structure Lm where
  due : Int
  to : Int
  port : Int
  b : Bp
def lm0 : Lm := ⟨0, 0, 0, ⟨0, 0, 0, 0, 0, 0, false⟩⟩
def Lm.lt (m : Lm) : Lt := ⟨m.due, m.to.toNat, m.port, m.b.vec, m.b.age⟩
structure LmOk (n : Nat) (now : Int) (m : Lm) : Prop where
  due : 0 ≤ m.due ∧ m.due ≤ now + 8
  to : 0 ≤ m.to ∧ m.to < n
  port : 0 ≤ m.port ∧ m.port ≤ 5
  int : m.b.int
  ok : m.b.ok
  role : m.b.role = 2
structure RunP (n : Nat) (ids : Nat → Int) (L : List Lk) (now : Int) (tk : Nat → Prop) (B : Nat → Nat → Pt) (W : List Lm) : Prop where
  sys : Sys n ids L now tk B (W.map Lm.lt)
  since : Since n now B
  ok : ∀ x, x < n → POk now 6 (B x)
  let_ : ∀ m ∈ W, LmOk n now m
section
variable {n : Nat} {ids : Nat → Int} {L : List Lk} {now : Int} {tk : Nat → Prop} {B : Nat → Nat → Pt} {W : List Lm}
theorem Sys.perm {W1 W2 : List Lt} (S : Sys n ids L now tk B W1) (h : ∀ m, m ∈ W2 ↔ m ∈ W1) : Sys n ids L now tk B W2 where
  up := S.up
  way := S.way
  role := S.role
  info := S.info
  fresh := S.fresh
  way_ x hx := S.way_ x ((h x).1 hx)
  live d hd hw r c hl e h1 h2 h3 := by
    rcases S.live d hd hw r c hl e h1 h2 h3 with ⟨x, hx, k⟩ | k
    · exact .inl ⟨x, (h x).2 hx, k⟩
    · exact .inr k
theorem RunP.perm {W2 : List Lm} (R : RunP n ids L now tk B W) (h : ∀ m, m ∈ W2 ↔ m ∈ W) : RunP n ids L now tk B W2 where
  sys := R.sys.perm fun x => by
    rw [List.mem_map, List.mem_map]
    exact ⟨fun ⟨m, hm, e⟩ => ⟨m, (h m).1 hm, e⟩, fun ⟨m, hm, e⟩ => ⟨m, (h m).2 hm, e⟩⟩
  since := R.since
  ok := R.ok
  let_ m hm := R.let_ m ((h m).1 hm)
/-- A letter that is due is heard. -/
theorem RunP.hear (K : Big n ids L) (R : RunP n ids L now tk B W) (htk : ∀ x, ¬ tk x) (h0 : 0 ≤ now) {m : Lm} (hm : m ∈ W) (hdue : m.due ≤ now) {W' : List Lm} (hsub : ∀ x ∈ W', x ∈ W) (hsup : ∀ x ∈ W, x = m ∨ x ∈ W') {f' : Nat → Pt} {r : Int}
    (hf : if (0 ≤ m.port ∧ m.port < (6 : Nat)) ∧ m.b.takes then (if (B m.to.toNat m.port.toNat).up = true then r = 0 ∧ f' = hearP (ids m.to.toNat) 6 now (B m.to.toNat) m.port.toNat m.b.vec m.b.age else r = 7 ∧ f' = B m.to.toNat) else r = 1 ∧ f' = B m.to.toNat) :
    RunP n ids L now tk (updB B m.to.toNat f') W' := by
  have ho := R.let_ m hm
  have hml : m.lt ∈ W.map Lm.lt := List.mem_map_of_mem hm
  obtain ⟨hd1, d, hd, e1, e2, _⟩ := R.sys.way_ m.lt hml
  have hd1 : now ≤ m.due := hd1
  have e1 : m.to.toNat = d.v := e1
  have e2 : m.port = d.pv := e2
  have hto : m.to.toNat < n := by have := ho.to; omega
  have hsubL : ∀ x ∈ W'.map Lm.lt, x ∈ W.map Lm.lt := fun x hx => by
    obtain ⟨y, hy, rfl⟩ := List.mem_map.1 hx
    exact List.mem_map_of_mem (hsub y hy)
  have hsupL : ∀ x ∈ W.map Lm.lt, x = m.lt ∨ x ∈ W'.map Lm.lt := fun x hx => by
    obtain ⟨y, hy, rfl⟩ := List.mem_map.1 hx
    rcases hsup y hy with rfl | h
    · exact .inl rfl
    · exact .inr (List.mem_map_of_mem h)
  by_cases ht : m.b.takes
  · rw [if_pos ⟨⟨ho.port.1, by have := ho.port.2; omega⟩, ht⟩] at hf
    have hup := R.sys.up_at K hd
    rw [← e1, ← e2] at hup
    rw [if_pos hup] at hf
    obtain ⟨_, rfl⟩ := hf
    have S' := Sys.hear K R.sys htk (m := m.lt) hml (by show m.due = now; omega) ((good_iff m.b).1 ht).1 hsubL hsupL
    refine ⟨S', ?_, fun x hx => ?_, fun x hx => R.let_ x (hsub x hx)⟩
    · exact since_step K R.sys R.since (updP (B m.to.toNat) m.port.toNat (gotP (B m.to.toNat m.port.toNat) m.b.vec m.b.age now)) (fun i => by
        unfold updP
        by_cases ei : i = m.port.toNat
        · rw [if_pos ei, ei]; exact ⟨rfl, rfl⟩
        · rw [if_neg ei]; exact ⟨rfl, rfl⟩) S'
    · by_cases ex : x = m.to.toNat
      · subst ex
        rw [updB_at]
        exact (R.ok _ hx).hearP _ h0 (by have := ho.port; omega) ⟨ho.ok.root, ho.ok.cost, ho.ok.bridge, ho.ok.port⟩ ho.ok.age hup
      · rw [updB_ne B _ ex]; exact R.ok x hx
  · rw [if_neg fun h => ht h.2] at hf
    obtain ⟨_, rfl⟩ := hf
    rw [updB_self B _ _ rfl]
    exact ⟨Sys.refuse R.sys (m := m.lt) (fun hg => ht ((good_iff m.b).2 ⟨hg, ho.role⟩)) hsubL hsupL, R.since, R.ok, fun x hx => R.let_ x (hsub x hx)⟩
theorem RunP.tick (K : Big n ids L) (R : RunP n ids L now tk B W) (h0 : 0 ≤ now) {x : Nat} (hx : x < n) :
    RunP n ids L now tk (updB B x (tickP (ids x) 6 now (B x))) W ∧ (∀ d ∈ dirs L, d.v = x → (updB B x (tickP (ids x) 6 now (B x)) d.v d.pv.toNat).none = false → now ≤ (updB B x (tickP (ids x) 6 now (B x)) d.v d.pv.toNat).at_ + 14) := by
  obtain ⟨S', hf⟩ := R.sys.tick (x := x)
  refine ⟨⟨S', ?_, fun y hy => ?_, R.let_⟩, hf⟩
  · exact since_step K R.sys R.since (oldP now (B x)) (fun i => by unfold oldP; split <;> exact ⟨rfl, rfl⟩) S'
  · by_cases ex : y = x
    · subst ex
      rw [updB_at]
      exact (R.ok _ hy).tickP _ h0 (Int.le_refl _)
    · rw [updB_ne B _ ex]; exact R.ok y hy
theorem RunP.next (K : Big n ids L) (R : RunP n ids L now tk B W) (hall : ∀ x, x < n → tk x) (hdue : ∀ m ∈ W, now < m.due) : RunP n ids L (now + 1) (fun _ => False) B W :=
  ⟨R.sys.next K hall (fun x hx => by obtain ⟨y, hy, rfl⟩ := List.mem_map.1 hx; exact hdue y hy), R.since.next, fun x hx => (R.ok x hx).more (by omega), fun m hm => by
    have h := R.let_ m hm
    exact ⟨⟨h.due.1, by have := h.due.2; omega⟩, h.to, h.port, h.int, h.ok, h.role⟩⟩
theorem RunP.start (h : WldP n ids (fun d => d ∈ dirs L) B) : RunP n ids L 1 (fun _ => False) B [] :=
  ⟨h.sys, fun x i hx hi => ⟨by have := (h.ok x hx i hi).since.2; omega, fun k => by omega⟩, fun x hx => (h.ok x hx).more (by decide), fun m hm => by cases hm⟩
theorem RunP.clock {tk' : Nat → Prop} (R : RunP n ids L now tk B W) (h : ∀ x, tk' x ↔ tk x) : RunP n ids L now tk' B W := by
  have : tk' = tk := funext fun x => propext (h x)
  subst this
  exact R
end
/-- Where links lead. -/
theorem way_or (l : List Li) (b p : Int) : wayL l b p = (-1, 0) ∧ (∀ x ∈ l, ¬ (x.a = b ∧ x.pa = p) ∧ ¬ (x.b = b ∧ x.pb = p)) ∨ ∃ x ∈ l, (x.a = b ∧ x.pa = p ∧ wayL l b p = (x.b, x.pb)) ∨ (x.b = b ∧ x.pb = p ∧ wayL l b p = (x.a, x.pa)) := by
  induction l with
  | nil => exact .inl ⟨rfl, fun x hx => by cases hx⟩
  | cons x l ih =>
    unfold wayL
    by_cases h1 : x.a = b ∧ x.pa = p
    · rw [if_pos h1]
      exact .inr ⟨x, List.mem_cons_self, .inl ⟨h1.1, h1.2, rfl⟩⟩
    · rw [if_neg h1]
      by_cases h2 : x.b = b ∧ x.pb = p
      · rw [if_pos h2]
        exact .inr ⟨x, List.mem_cons_self, .inr ⟨h2.1, h2.2, rfl⟩⟩
      · rw [if_neg h2]
        rcases ih with ⟨e, h⟩ | ⟨y, hy, h⟩
        · refine .inl ⟨e, fun y hy => ?_⟩
          rcases List.mem_cons.1 hy with rfl | hy
          · exact ⟨h1, h2⟩
          · exact h y hy
        · exact .inr ⟨y, List.mem_cons_of_mem _ hy, h⟩
section
variable {n : Nat} {ids : Nat → Int} {l : List Li} {now : Int} {tk : Nat → Prop} {B : Nat → Nat → Pt} {W : List Lm}
theorem way_some (hpos : ∀ x ∈ l, 0 ≤ x.a ∧ 0 ≤ x.b) {b : Nat} {p : Int} (h : 0 ≤ (wayL l b p).1) : ∃ d ∈ dirs (l.map Li.lk), d.u = b ∧ d.pu = p ∧ wayL l b p = ((d.v : Int), d.pv) := by
  rcases way_or l b p with ⟨e, _⟩ | ⟨x, hx, h1 | h1⟩
  · rw [e] at h
    exact absurd h (by decide)
  · have hp := hpos x hx
    refine ⟨x.lk.d1, mem_dirs.2 ⟨_, List.mem_map_of_mem hx, .inl rfl⟩, ?_, h1.2.1, ?_⟩
    · show x.a.toNat = b
      omega
    · rw [h1.2.2]
      show (x.b, x.pb) = ((x.b.toNat : Int), x.pb)
      rw [Int.toNat_of_nonneg hp.2]
  · have hp := hpos x hx
    refine ⟨x.lk.d2, mem_dirs.2 ⟨_, List.mem_map_of_mem hx, .inr rfl⟩, ?_, h1.2.1, ?_⟩
    · show x.b.toNat = b
      omega
    · rw [h1.2.2]
      show (x.a, x.pa) = ((x.a.toNat : Int), x.pa)
      rw [Int.toNat_of_nonneg hp.1]
theorem way_dir (K : Big n ids (l.map Li.lk)) (hpos : ∀ x ∈ l, 0 ≤ x.a ∧ 0 ≤ x.b) {d : Dl} (hd : d ∈ dirs (l.map Li.lk)) : wayL l d.u d.pu = ((d.v : Int), d.pv) := by
  have h0 : 0 ≤ (wayL l d.u d.pu).1 := by
    rcases way_or l d.u d.pu with ⟨_, h⟩ | ⟨x, hx, h1 | h1⟩
    · obtain ⟨k, hk, h2⟩ := mem_dirs.1 hd
      obtain ⟨x, hx, rfl⟩ := List.mem_map.1 hk
      have hp := hpos x hx
      have hn := h x hx
      rcases h2 with rfl | rfl
      · exact absurd ⟨by show x.a = ((x.a.toNat : Nat) : Int); rw [Int.toNat_of_nonneg hp.1], rfl⟩ hn.1
      · exact absurd ⟨by show x.b = ((x.b.toNat : Nat) : Int); rw [Int.toNat_of_nonneg hp.2], rfl⟩ hn.2
    · rw [h1.2.2]; exact (hpos x hx).2
    · rw [h1.2.2]; exact (hpos x hx).1
  obtain ⟨d', hd', e1, e2, e3⟩ := way_some hpos h0
  have := dirs_from K.fits hd' hd e1 e2
  subst this
  exact e3
theorem mem_said (id : Int) (m : Nat) (f : Nat → Pt) (ch now : Int) (j : Nat) {i : Nat} (hi : i < j) (hr : (f i).role = 2) : saidOf id m f ch now i ∈ saidTo id m f ch now j := by
  induction j with
  | zero => omega
  | succ j ih =>
    unfold saidTo
    by_cases e : i = j
    · subst e
      rw [if_pos hr]
      exact List.mem_append_right _ List.mem_cons_self
    · have := ih (by omega)
      split
      · exact List.mem_append_left _ this
      · exact this
/-- Letters of what was said so far. -/
def Mk (l : List Li) (x : Nat) (now : Int) (s : Sd) (d : Int) : Lm := ⟨now + d, (wayL l x s.port).1, (wayL l x s.port).2, s.b⟩
structure SaidN (l : List Li) (x : Nat) (now : Int) (S : List Sd) (j : Nat) (N : List Lm) : Prop where
  from_ : ∀ m ∈ N, ∃ k d, k < j ∧ 1 ≤ d ∧ d ≤ 8 ∧ 0 ≤ (wayL l x (S.getD k sd0).port).1 ∧ m = Mk l x now (S.getD k sd0) d
  all_ : ∀ k, k < j → 0 ≤ (wayL l x (S.getD k sd0).port).1 → ∃ d, 1 ≤ d ∧ d ≤ 8 ∧ Mk l x now (S.getD k sd0) d ∈ N
theorem SaidN.zero (l : List Li) (x : Nat) (now : Int) (S : List Sd) : SaidN l x now S 0 [] := ⟨fun m hm => (by cases hm), fun k hk => (by omega)⟩
theorem SaidN.skip {x : Nat} {S : List Sd} {j : Nat} {N : List Lm} (h : SaidN l x now S j N) (hn : ¬ 0 ≤ (wayL l x (S.getD j sd0).port).1) : SaidN l x now S (j + 1) N :=
  ⟨fun m hm => by obtain ⟨k, d, h1, h2⟩ := h.from_ m hm; exact ⟨k, d, by omega, h2⟩, fun k hk h0 => by
    by_cases e : k = j
    · subst e; exact absurd h0 hn
    · exact h.all_ k (by omega) h0⟩
theorem SaidN.more {x : Nat} {S : List Sd} {j : Nat} {N : List Lm} (h : SaidN l x now S j N) (hn : 0 ≤ (wayL l x (S.getD j sd0).port).1) {d : Int} (hd : 1 ≤ d ∧ d ≤ 8) : SaidN l x now S (j + 1) (N ++ [Mk l x now (S.getD j sd0) d]) := by
  refine ⟨fun m hm => ?_, fun k hk h0 => ?_⟩
  · rcases List.mem_append.1 hm with hm | hm
    · obtain ⟨k, d, h1, h2⟩ := h.from_ m hm
      exact ⟨k, d, by omega, h2⟩
    · obtain rfl : m = _ := by simpa using hm
      exact ⟨j, d, by omega, hd.1, hd.2, hn, rfl⟩
  · by_cases e : k = j
    · subst e
      exact ⟨d, hd.1, hd.2, List.mem_append_right _ List.mem_cons_self⟩
    · obtain ⟨d', h1, h2, h3⟩ := h.all_ k (by omega) h0
      exact ⟨d', h1, h2, List.mem_append_left _ h3⟩
theorem best_in64 {id : Int} (hid : nameB id = true) {f : Nat → Pt} {T : Int} (hok : POk T 6 f) : In64 (bestP id 6 f).1.root ∧ In64 (bestP id 6 f).1.cost := by
  have hi := name_in hid
  obtain ⟨h | h, _⟩ := bestP_spec id 6 f
  · rw [h.1]
    exact ⟨⟨by show (-9223372036854775808 : Int) ≤ id; omega, by show id ≤ (9223372036854775807 : Int); omega⟩, in0⟩
  · obtain ⟨k, hk, e, _⟩ := h
    rw [e]
    have h1 := hok k hk
    have h2 := sumS_in (f k).vec.cost (f k).way
    exact ⟨h1.vec.1, ⟨by show (-9223372036854775808 : Int) ≤ sumS (f k).vec.cost (f k).way; omega, by show sumS (f k).vec.cost (f k).way ≤ (9223372036854775807 : Int); omega⟩⟩
/-- What a bridge says is on its way. -/
theorem RunP.say (K : Big n ids (l.map Li.lk)) (hpos : ∀ x ∈ l, 0 ≤ x.a ∧ 0 ≤ x.b) (R : RunP n ids (l.map Li.lk) now tk B W) (h0 : 0 ≤ now) {x : Nat} (hx : x < n) (hf : ∀ d ∈ dirs (l.map Li.lk), d.v = x → (B d.v d.pv.toNat).none = false → now ≤ (B d.v d.pv.toNat).at_ + 14) {ch : Int} {N : List Lm}
    (h : SaidN l x now (saysN (ids x) 6 (B x) ch now) (saysN (ids x) 6 (B x) ch now).length N) : RunP n ids (l.map Li.lk) now (fun y => tk y ∨ y = x) B (W ++ N) := by
  have hN : ∀ m ∈ N, ∃ d ∈ dirs (l.map Li.lk), d.u = x ∧ m.to = (d.v : Int) ∧ m.port = d.pv ∧ m.b.vec = offerV (bestP (ids x) 6 (B x)).1 (ids x) d.pu ∧ m.b.age = ageP (ids x) 6 (B x) ∧ now < m.due ∧ m.due ≤ now + 8 ∧ m.b.role = 2 ∧ m.b.bridge = ids x ∧ m.b.port = d.pu := fun m hm => by
    obtain ⟨k, dd, hk, d1, d2, hw, rfl⟩ := h.from_ m hm
    obtain ⟨i, hi, hr, e⟩ := says_mem hk
    rw [e] at hw ⊢
    obtain ⟨d, hd, e1, e2, e3⟩ := way_some hpos hw
    have e2' : d.pu = (i : Int) := e2
    refine ⟨d, hd, e1, ?_, ?_, ?_, rfl, ?_, ?_, rfl, rfl, ?_⟩
    · show (wayL l x (saidOf (ids x) 6 (B x) ch now i).port).1 = _
      rw [e3]
    · show (wayL l x (saidOf (ids x) 6 (B x) ch now i).port).2 = _
      rw [e3]
    · rw [e2']
      rfl
    · show now < now + dd
      omega
    · show now + dd ≤ now + 8
      omega
    · rw [e2']
      rfl
  refine ⟨?_, R.since, R.ok, fun m hm => ?_⟩
  · refine Sys.say K R.sys hx hf (fun m hm => ?_) (fun m hm => ?_) (fun he d hd hu hr => ?_)
    · rw [List.map_append]
      exact List.mem_append_left _ hm
    · rw [List.map_append] at hm
      rcases List.mem_append.1 hm with hm | hm
      · exact .inl hm
      · obtain ⟨y, hy, rfl⟩ := List.mem_map.1 hm
        obtain ⟨d, hd, e1, e2, e3, e4, e5, e6, e7, _⟩ := hN y hy
        exact .inr ⟨d, hd, e1, by show y.to.toNat = d.v; rw [e2]; rfl, e3, e4, e5, e6, e7⟩
    · have hp := (K.ok hd).pu
      obtain ⟨i, hi⟩ : ∃ i, d.pu.toNat = i := ⟨_, rfl⟩
      have hi2 : (i : Int) = d.pu := by omega
      rw [hi] at hr
      have hmem : saidOf (ids x) 6 (B x) ch now i ∈ saysN (ids x) 6 (B x) ch now := by
        unfold saysN
        rw [if_pos he]
        exact mem_said _ _ _ _ _ _ (by omega) hr
      obtain ⟨k, hk, e⟩ := List.mem_iff_getElem.1 hmem
      have e' : (saysN (ids x) 6 (B x) ch now).getD k sd0 = saidOf (ids x) 6 (B x) ch now i := by rw [List.getD_eq_getElem?_getD, List.getElem?_eq_getElem hk, ← e]; rfl
      have hway : wayL l x ((saysN (ids x) 6 (B x) ch now).getD k sd0).port = ((d.v : Int), d.pv) := by
        rw [e']
        show wayL l x (i : Int) = _
        rw [hi2, ← hu]
        exact way_dir K hpos hd
      obtain ⟨dd, d1, d2, hin⟩ := h.all_ k hk (by rw [hway]; exact Int.natCast_nonneg _)
      refine ⟨_, List.mem_map_of_mem (f := Lm.lt) (List.mem_append_right _ hin), ?_, ?_, ?_, ?_, ?_, ?_⟩
      · show (wayL l x ((saysN (ids x) 6 (B x) ch now).getD k sd0).port).1.toNat = d.v
        rw [hway]
        rfl
      · show (wayL l x ((saysN (ids x) 6 (B x) ch now).getD k sd0).port).2 = d.pv
        rw [hway]
      · show ((saysN (ids x) 6 (B x) ch now).getD k sd0).b.vec = _
        rw [e', ← hi2]
        rfl
      · show ((saysN (ids x) 6 (B x) ch now).getD k sd0).b.age = _
        rw [e']
        rfl
      · show now < now + dd
        omega
      · show now + dd ≤ now + 8
        omega
  · rcases List.mem_append.1 hm with hm | hm
    · exact R.let_ m hm
    · obtain ⟨d, hd, e1, e2, e3, e4, e5, e6, e7, e8, e9, e10⟩ := hN m hm
      have hk := K.ok hd
      have hb := best_in64 (K.named x hx) (R.ok x hx)
      have hn := name_in (K.named x hx)
      have ha := age_low (ids x) 6 (B x)
      have er : m.b.root = (bestP (ids x) 6 (B x)).1.root := congrArg Vec.root e4
      have ec : m.b.cost = (bestP (ids x) 6 (B x)).1.cost := congrArg Vec.cost e4
      have hp := hk.pu
      refine ⟨⟨by omega, e7⟩, by rw [e2]; have := hk.v; omega, by rw [e3]; exact hk.pv, ⟨?_, ?_, ?_, ?_, ?_, ?_⟩, ⟨?_, ?_, ?_, ?_, ?_, ?_⟩, e8⟩
      · rw [er]; exact hb.1
      · rw [ec]; exact hb.2
      · unfold InI; rw [e9]; omega
      · unfold InI; rw [e10]; omega
      · unfold InI; rw [e5]; omega
      · unfold InI; rw [e8]; omega
      · rw [er]; exact hb.1
      · rw [ec]; exact hb.2
      · unfold In64; rw [e9]; omega
      · unfold In64; rw [e10]; omega
      · unfold In64; rw [e5]; omega
      · unfold In64; rw [e8]; omega
/-- In the end the links that are open are the tree's. -/
theorem RunP.ends (K : Big n ids (l.map Li.lk)) (R : RunP n ids (l.map Li.lk) now tk B W) (ht : 288 + 20 * (n : Int) ≤ now) : ∀ q, q < l.length →
    decide (isT ids (sweeps ids (linkE (l.map Li.lk)) (n * l.length)) (l.getD q li0).lk) = (decide (stateP (B (l.getD q li0).lk.a (l.getD q li0).pa.toNat) now = 2) && decide (stateP (B (l.getD q li0).lk.b (l.getD q li0).pb.toNat) now = 2)) := fun q hq => by
  have hmem : l.getD q li0 ∈ l := by rw [List.getD_eq_getElem?_getD, List.getElem?_eq_getElem hq]; exact List.getElem_mem hq
  have h := R.sys.open_ K R.since ht (List.mem_map_of_mem (f := Li.lk) hmem)
  have e := sweeps_times (n := n) (ids := ids) (L := l.map Li.lk) K.fits
  rw [List.length_map] at e
  rw [e]
  have h' : (stateP (B (l.getD q li0).lk.a (l.getD q li0).pa.toNat) now = 2 ∧ stateP (B (l.getD q li0).lk.b (l.getD q li0).pb.toNat) now = 2) ↔ isT ids (sweeps ids (linkE (l.map Li.lk)) n) (l.getD q li0).lk := h
  by_cases c : isT ids (sweeps ids (linkE (l.map Li.lk)) n) (l.getD q li0).lk
  · obtain ⟨c1, c2⟩ := h'.2 c
    rw [decide_eq_true c, decide_eq_true c1, decide_eq_true c2]
    rfl
  · rw [decide_eq_false c]
    by_cases c1 : stateP (B (l.getD q li0).lk.a (l.getD q li0).pa.toNat) now = 2
    · have c2 : ¬ stateP (B (l.getD q li0).lk.b (l.getD q li0).pb.toNat) now = 2 := fun c2 => c (h'.1 ⟨c1, c2⟩)
      rw [decide_eq_false c2, Bool.and_false]
    · rw [decide_eq_false c1, Bool.false_and]
end
end Go.Proofs.Ytadejdhdkkfliaa
