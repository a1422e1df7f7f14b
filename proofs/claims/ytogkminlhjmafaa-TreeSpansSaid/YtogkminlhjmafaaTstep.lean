/- What hearing, ticking and saying leave of what bridges hold: plain theory for the tree that comes to stand. No program's call, no condition but those that are said. -/
import Derived.Test.YtogkminlhjmafaaTfin
namespace Go.Proofs.Ytogkminlhjmafaa
def updB (B : Nat → Nat → Pt) (x : Nat) (f : Nat → Pt) : Nat → Nat → Pt := fun y => if y = x then f else B y
section
variable {n : Nat} {ids : Nat → Int} {L : List Lk} {now : Int} {tk : Nat → Prop} {B : Nat → Nat → Pt} {W : List Lt}
theorem updB_at (B : Nat → Nat → Pt) (x : Nat) (f : Nat → Pt) : updB B x f x = f := if_pos rfl
theorem updB_ne (B : Nat → Nat → Pt) {x y : Nat} (f : Nat → Pt) (h : y ≠ x) : updB B x f y = B y := if_neg h
theorem updP_at (f : Nat → Pt) (i : Nat) (p : Pt) : updP f i p i = p := if_pos rfl
theorem updP_ne (f : Nat → Pt) {i j : Nat} (p : Pt) (h : j ≠ i) : updP f i p j = f j := if_neg h

/-- At first. -/
theorem sys_start (hup : ∀ x i, x < n → i < 6 → ((B x i).up = true ↔ ∃ d ∈ dirs L, d.v = x ∧ d.pv = (i : Int))) (hway : ∀ d ∈ dirs L, (B d.v d.pv.toNat).way = d.cv)
    (hrole : ∀ x i, x < n → i < 6 → (B x i).role = roleP (ids x) 6 (B x) i) (hinfo : ∀ d ∈ dirs L, (B d.v d.pv.toNat).none = false → GoodM (B d.v d.pv.toNat).vec (B d.v d.pv.toNat).age ∧ (B d.v d.pv.toNat).at_ = 0) :
    Sys n ids L 1 (fun _ => False) B [] where
  up := hup
  way := hway
  role := hrole
  info d hd hn := by
    obtain ⟨h1, h2⟩ := hinfo d hd hn
    refine ⟨h1, by omega, by omega, 0, by omega, by omega, fun k hk h => ?_, fun r c hl h => ?_⟩
    · have := h1.2.2.2.2.2.2.1
      exact .inr (by omega)
    · have : (0 : Int) ≤ rk n ids (linkE L) r c := Int.natCast_nonneg _
      omega
  fresh d _ h := h.elim
  way_ m hm := by cases hm
  live d hd hw r c hl e h1 h2 h3 := by
    have : (0 : Int) ≤ rk n ids (linkE L) r c := Int.natCast_nonneg _
    rcases h3 with h | h
    · omega
    · exact h.2.elim
/-- From one tick to the next one. -/
theorem Sys.next (K : Big n ids L) (S : Sys n ids L now tk B W) (hall : ∀ x, x < n → tk x) (hdue : ∀ m ∈ W, now < m.due) : Sys n ids L (now + 1) (fun _ => False) B W where
  up := S.up
  way := S.way
  role := S.role
  info d hd hn := by
    obtain ⟨h1, h2, h3, h4⟩ := S.info d hd hn
    have := S.fresh d hd (hall _ (K.ok hd).v) hn
    exact ⟨h1, by omega, by omega, h4⟩
  fresh d _ h := h.elim
  way_ m hm := by
    obtain ⟨_, d, hd, e1, e2, h⟩ := S.way_ m hm
    refine ⟨by have := hdue m hm; omega, d, hd, e1, e2, fun hg => ?_⟩
    obtain ⟨s, s1, s2, s3, s4⟩ := h hg
    exact ⟨s, s1, s2, by omega, s4⟩
  live d hd hw r c hl e h1 h2 h3 := by
    refine S.live d hd hw r c hl e h1 h2 ?_
    rcases h3 with h | h
    · by_cases e' : e = now
      · exact .inr ⟨e', hall _ (K.ok hd).u⟩
      · exact .inl (by omega)
    · exact h.2.elim
/-- A message that can't be is refused. -/
theorem Sys.refuse (S : Sys n ids L now tk B W) {W' : List Lt} {m : Lt} (hg : ¬ GoodM m.vec m.age) (hsub : ∀ x ∈ W', x ∈ W) (hsup : ∀ x ∈ W, x = m ∨ x ∈ W') : Sys n ids L now tk B W' where
  up := S.up
  way := S.way
  role := S.role
  info := S.info
  fresh := S.fresh
  way_ x hx := S.way_ x (hsub x hx)
  live d hd hw r c hl e h1 h2 h3 := by
    rcases S.live d hd hw r c hl e h1 h2 h3 with ⟨x, hx, a, b, hgx, h⟩ | h
    · rcases hsup x hx with rfl | hx'
      · exact absurd hgx hg
      · exact .inl ⟨x, hx', a, b, hgx, h⟩
    · exact .inr h
/-- A message is heard. -/
theorem Sys.hear (K : Big n ids L) (S : Sys n ids L now tk B W) (htk : ∀ x, ¬ tk x) {W' : List Lt} {m : Lt} (hm : m ∈ W) (hdue : m.due = now) (hg : GoodM m.vec m.age) (hsub : ∀ x ∈ W', x ∈ W) (hsup : ∀ x ∈ W, x = m ∨ x ∈ W') :
    Sys n ids L now tk (updB B m.v (hearP (ids m.v) 6 now (B m.v) m.pv.toNat m.vec m.age)) W' := by
  obtain ⟨_, d0, hd0, e1, e2, hs⟩ := S.way_ m hm
  obtain ⟨s, s1, s2, s3, s4⟩ := hs hg
  obtain ⟨pe, p6⟩ := pv_nat K hd0
  -- what a port is then
  have hat : ∀ d ∈ dirs L, (d = d0 ∧ (updB B m.v (hearP (ids m.v) 6 now (B m.v) m.pv.toNat m.vec m.age) d.v d.pv.toNat).none = false ∧ (updB B m.v (hearP (ids m.v) 6 now (B m.v) m.pv.toNat m.vec m.age) d.v d.pv.toNat).vec = m.vec ∧ (updB B m.v (hearP (ids m.v) 6 now (B m.v) m.pv.toNat m.vec m.age) d.v d.pv.toNat).age = m.age ∧ (updB B m.v (hearP (ids m.v) 6 now (B m.v) m.pv.toNat m.vec m.age) d.v d.pv.toNat).at_ = now) ∨
      ((updB B m.v (hearP (ids m.v) 6 now (B m.v) m.pv.toNat m.vec m.age) d.v d.pv.toNat).none = (B d.v d.pv.toNat).none ∧ (updB B m.v (hearP (ids m.v) 6 now (B m.v) m.pv.toNat m.vec m.age) d.v d.pv.toNat).vec = (B d.v d.pv.toNat).vec ∧ (updB B m.v (hearP (ids m.v) 6 now (B m.v) m.pv.toNat m.vec m.age) d.v d.pv.toNat).age = (B d.v d.pv.toNat).age ∧ (updB B m.v (hearP (ids m.v) 6 now (B m.v) m.pv.toNat m.vec m.age) d.v d.pv.toNat).at_ = (B d.v d.pv.toNat).at_) := fun d hd => by
    by_cases ev : d.v = m.v
    · rw [ev, updB_at]
      unfold hearP
      obtain ⟨_, _, u1, u2, u3, u4⟩ := anew_up (ids m.v) 6 now (updP (B m.v) m.pv.toNat (gotP (B m.v m.pv.toNat) m.vec m.age now)) d.pv.toNat
      rw [u1, u2, u3, u4]
      by_cases ep : d.pv.toNat = m.pv.toNat
      · refine .inl ⟨?_, ?_⟩
        · have := (pv_nat K hd).1
          exact dirs_to K.fits hd hd0 (by rw [ev, e1]) (by rw [e2] at ep; omega)
        · rw [ep, updP_at]
          exact ⟨rfl, rfl, rfl, rfl⟩
      · rw [updP_ne _ _ ep]
        exact .inr ⟨rfl, rfl, rfl, rfl⟩
    · rw [updB_ne _ _ ev]
      exact .inr ⟨rfl, rfl, rfl, rfl⟩
  have hst : ∀ x i, (updB B m.v (hearP (ids m.v) 6 now (B m.v) m.pv.toNat m.vec m.age) x i).up = (B x i).up ∧ (updB B m.v (hearP (ids m.v) 6 now (B m.v) m.pv.toNat m.vec m.age) x i).way = (B x i).way := fun x i => by
    by_cases ev : x = m.v
    · subst ev
      rw [updB_at]
      unfold hearP
      obtain ⟨u1, u2, _⟩ := anew_up (ids m.v) 6 now (updP (B m.v) m.pv.toNat (gotP (B m.v m.pv.toNat) m.vec m.age now)) i
      rw [u1, u2]
      by_cases ep : i = m.pv.toNat
      · subst ep; rw [updP_at]; exact ⟨rfl, rfl⟩
      · rw [updP_ne _ _ ep]; exact ⟨rfl, rfl⟩
    · rw [updB_ne _ _ ev]; exact ⟨rfl, rfl⟩
  constructor
  · intro x i hx hi
    rw [(hst x i).1]
    exact S.up x i hx hi
  · intro d hd
    rw [(hst _ _).2]
    exact S.way d hd
  · intro x i hx hi
    by_cases ev : x = m.v
    · subst ev
      rw [updB_at]
      exact anew_role _ _ _ _ _ hi
    · rw [updB_ne _ _ ev]
      exact S.role x i hx hi
  · intro d hd hn
    rcases hat d hd with ⟨rfl, _, h2, h3, h4⟩ | ⟨h1, h2, h3, h4⟩
    · refine ⟨by rw [h2, h3]; exact hg, by omega, by omega, s, by omega, by omega, ?_⟩
      rw [h2, h3]
      exact s4
    · obtain ⟨k1, k2, k3, s', k4, k5, k6⟩ := S.info d hd (by rw [← h1]; exact hn)
      exact ⟨by rw [h2, h3]; exact k1, by omega, by omega, s', by omega, by omega, by rw [h2, h3]; exact k6⟩
  · intro d hd h
    exact absurd h (htk _)
  · intro x hx
    exact S.way_ x (hsub x hx)
  · intro d hd hw r c hl e h1 h2 h3
    have hlt : e < now := by
      rcases h3 with h | h
      · exact h
      · exact absurd h.2 (htk _)
    rcases S.live d hd hw r c hl e h1 h2 h3 with ⟨x, hx, a, b, hgx, h⟩ | ⟨h, h'⟩
    · rcases hsup x hx with rfl | hx'
      · rcases hat d hd with ⟨_, k1, _, _, k4⟩ | ⟨_, _, _, _⟩
        · exact .inr ⟨k1, by omega⟩
        · have : d = d0 := dirs_to K.fits hd hd0 (by rw [← a, e1]) (by rw [← b, e2])
          subst this
          rw [a, b]
          refine .inr ⟨?_, ?_⟩
          · rw [updB_at]
            unfold hearP
            rw [(anew_up _ _ _ _ _).2.2.1, updP_at]
            rfl
          · rw [updB_at]
            unfold hearP
            rw [(anew_up _ _ _ _ _).2.2.2.2.2, updP_at]
            exact hlt
      · exact .inl ⟨x, hx', a, b, hgx, h⟩
    · rcases hat d hd with ⟨_, k1, _, _, k4⟩ | ⟨k1, _, _, k4⟩
      · exact .inr ⟨k1, by omega⟩
      · exact .inr ⟨by rw [k1]; exact h, by rw [k4]; exact h'⟩
/-- What is too old is forgotten, and roles are anew. -/
theorem Sys.tick (S : Sys n ids L now tk B W) {x : Nat} :
    Sys n ids L now tk (updB B x (tickP (ids x) 6 now (B x))) W ∧ (∀ d ∈ dirs L, d.v = x → (updB B x (tickP (ids x) 6 now (B x)) d.v d.pv.toNat).none = false → now ≤ (updB B x (tickP (ids x) 6 now (B x)) d.v d.pv.toNat).at_ + 14) := by
  have hst : ∀ y i, (updB B x (tickP (ids x) 6 now (B x)) y i).up = (B y i).up ∧ (updB B x (tickP (ids x) 6 now (B x)) y i).way = (B y i).way ∧ ((updB B x (tickP (ids x) 6 now (B x)) y i).none = false → (updB B x (tickP (ids x) 6 now (B x)) y i).vec = (B y i).vec ∧ (updB B x (tickP (ids x) 6 now (B x)) y i).age = (B y i).age) ∧ (updB B x (tickP (ids x) 6 now (B x)) y i).at_ = (B y i).at_ ∧
      ((updB B x (tickP (ids x) 6 now (B x)) y i).none = false → (B y i).none = false ∧ (y = x → now ≤ (B y i).at_ + 14)) ∧ ((B y i).none = false → now ≤ (B y i).at_ + 14 → (updB B x (tickP (ids x) 6 now (B x)) y i).none = false) := fun y i => by
    by_cases ev : y = x
    · subst ev
      rw [updB_at]
      unfold tickP
      obtain ⟨u1, u2, u3, u4, u5, u6⟩ := anew_up (ids y) 6 now (oldP now (B y)) i
      rw [u1, u2, u3, u4, u5, u6]
      unfold oldP
      by_cases h : 14 < now - (B y i).at_
      · rw [if_pos h]
        exact ⟨rfl, rfl, fun h => (by cases h), rfl, fun h => (by cases h), fun _ h' => by omega⟩
      · rw [if_neg h]
        exact ⟨rfl, rfl, fun _ => ⟨rfl, rfl⟩, rfl, fun h' => ⟨h', fun _ => by omega⟩, fun h' _ => h'⟩
    · rw [updB_ne _ _ ev]
      exact ⟨rfl, rfl, fun _ => ⟨rfl, rfl⟩, rfl, fun h => ⟨h, fun e => absurd e ev⟩, fun h _ => h⟩
  refine ⟨⟨?_, ?_, ?_, ?_, ?_, S.way_, ?_⟩, ?_⟩
  · intro y i hy hi
    rw [(hst y i).1]
    exact S.up y i hy hi
  · intro d hd
    rw [(hst _ _).2.1]
    exact S.way d hd
  · intro y i hy hi
    by_cases ev : y = x
    · subst ev
      rw [updB_at]
      exact anew_role _ _ _ _ _ hi
    · rw [updB_ne _ _ ev]
      exact S.role y i hy hi
  · intro d hd hn
    obtain ⟨_, _, h23, h4, h5, _⟩ := hst d.v d.pv.toNat
    obtain ⟨h2, h3⟩ := h23 hn
    obtain ⟨k1, k2, k3, s', k4, k5, k6⟩ := S.info d hd (h5 hn).1
    exact ⟨by rw [h2, h3]; exact k1, by omega, by omega, s', by omega, by omega, by rw [h2, h3]; exact k6⟩
  · intro d hd ht hn
    obtain ⟨_, _, _, h4, h5, _⟩ := hst d.v d.pv.toNat
    rw [h4]
    exact S.fresh d hd ht (h5 hn).1
  · intro d hd hw r c hl e h1 h2 h3
    obtain ⟨_, _, _, h4, _, h6⟩ := hst d.v d.pv.toNat
    rcases S.live d hd hw r c hl e h1 h2 h3 with h | ⟨ha, hb⟩
    · exact .inl h
    · by_cases hfar : now ≤ e + 14
      · exact .inr ⟨h6 ha (by omega), by omega⟩
      · rcases S.live d hd hw r c hl (now - 9 - (now - 9) % 2) (by omega) (by omega) (.inl (by omega)) with ⟨m, hm, _, _, _, _, h⟩ | ⟨hn, hn'⟩
        · have := (S.way_ m hm).1
          omega
        · exact .inr ⟨h6 hn (by omega), by omega⟩
  · intro d hd ev hn
    obtain ⟨_, _, _, h4, h5, _⟩ := hst d.v d.pv.toNat
    rw [h4]
    exact (h5 hn).2 ev
/-- What a bridge says is on its way. -/
theorem Sys.say (K : Big n ids L) (S : Sys n ids L now tk B W) {x : Nat} (hx : x < n) (hf : ∀ d ∈ dirs L, d.v = x → (B d.v d.pv.toNat).none = false → now ≤ (B d.v d.pv.toNat).at_ + 14) {W' : List Lt}
    (hW : ∀ m ∈ W, m ∈ W') (hN1 : ∀ m ∈ W', m ∈ W ∨ ∃ d ∈ dirs L, d.u = x ∧ m.v = d.v ∧ m.pv = d.pv ∧ m.vec = offerV (bestP (ids x) 6 (B x)).1 (ids x) d.pu ∧ m.age = ageP (ids x) 6 (B x) ∧ now < m.due ∧ m.due ≤ now + 8)
    (hN2 : now % 2 = 0 → ∀ d ∈ dirs L, d.u = x → (B x d.pu.toNat).role = 2 → ∃ m ∈ W', m.v = d.v ∧ m.pv = d.pv ∧ m.vec = offerV (bestP (ids x) 6 (B x)).1 (ids x) d.pu ∧ m.age = ageP (ids x) 6 (B x) ∧ now < m.due ∧ m.due ≤ now + 8) :
    Sys n ids L now (fun y => tk y ∨ y = x) B W' := by
  have G := K.fits.graph
  -- what is said is as good as what was heard
  have hitem : ∀ d ∈ dirs L, d.u = x → 0 ≤ ageP (ids x) 6 (B x) → Item n ids L d now (offerV (bestP (ids x) 6 (B x)).1 (ids x) d.pu) (ageP (ids x) 6 (B x)) := fun d hd hu h0 => by
    constructor
    · intro k hk hkn
      cases k with
      | zero => exact .inr h0
      | succ k =>
        obtain ⟨hbest, _⟩ := bestP_spec (ids x) 6 (B x)
        rcases hbest with ⟨e, _⟩ | ⟨j, hj, e, hc⟩
        · refine .inl ⟨by rw [hu]; rfl, rfl, h0, ?_, x, hx, ?_, ?_⟩
          · rw [e]
            show (0 : Int) ≤ _
            omega
          · rw [e]; rfl
          · rw [e, hu]; exact .nil
        · obtain ⟨dj, hdj, e1, e2, e3⟩ := S.dir hx hj hc.1
          subst e1 e2
          have hn := (use_pt hc.1).1
          obtain ⟨hg, a1, a2, s, s1, s2, hi⟩ := S.info dj hdj hn
          have a3 := hf dj hdj rfl hn
          have hage : ageP (ids dj.v) 6 (B dj.v) = (B dj.v dj.pv.toNat).age + 1 := by
            unfold ageP
            rw [e]
            simp only
            rw [if_neg (by omega), Int.toNat_natCast]
          have hthr := thr_at K S hdj hn
          have hcv := (K.ok hdj).cost
          rw [hage]
          rcases hi.old k (by omega) (by omega) with ⟨q1, q2, q3, q4, r, hr, q5, q6⟩ | hk'
          · refine .inl ⟨by rw [hu]; rfl, rfl, by omega, ?_, r, hr, ?_, ?_⟩
            · rw [e, hthr]
              show (B dj.v dj.pv.toNat).vec.cost + dj.cv ≤ _
              omega
            · rw [e, hthr]
              exact q5
            · rw [e, hthr, hu]
              exact walk_to hdj rfl q6
          · exact .inr (by omega)
    · intro r c hl ht
      rw [hu] at hl ⊢
      obtain ⟨b1, b2, _⟩ := S.settled K hx hl ht
      obtain ⟨f1, f2⟩ := fin_rc G hx hl
      refine ⟨?_, b2⟩
      rw [b1]
      unfold offerV
      rw [f1, f2]
  refine ⟨S.up, S.way, S.role, S.info, ?_, ?_, ?_⟩
  · intro d hd ht hn
    rcases ht with ht | ht
    · exact S.fresh d hd ht hn
    · exact hf d hd ht hn
  · intro m hm
    rcases hN1 m hm with h | ⟨d, hd, hu, e1, e2, e3, e4, e5, e6⟩
    · exact S.way_ m h
    · refine ⟨by omega, d, hd, e1, e2, fun hg => ⟨now, e5, e6, Int.le_refl _, ?_⟩⟩
      rw [e3, e4]
      refine hitem d hd hu ?_
      rw [← e4]
      exact hg.2.2.2.2.2.2.1
  · intro d hd hw r c hl e h1 h2 h3
    have old : (e < now ∨ e = now ∧ tk d.u) → (∃ m ∈ W', m.v = d.v ∧ m.pv = d.pv ∧ GoodM m.vec m.age ∧ e < m.due ∧ m.due ≤ e + 8) ∨ ((B d.v d.pv.toNat).none = false ∧ e < (B d.v d.pv.toNat).at_) := fun h => by
      rcases S.live d hd hw r c hl e h1 h2 h with ⟨m, hm, h⟩ | h
      · exact .inl ⟨m, hW m hm, h⟩
      · exact .inr h
    rcases h3 with h | ⟨rfl, ht | hu⟩
    · exact old (.inl h)
    · exact old (.inr ⟨rfl, ht⟩)
    · have hrole : (B x d.pu.toNat).role = 2 := by
        rw [S.role x _ hx (pu_nat K hd).2, ← hu]
        exact S.said K hd hw hl h2
      obtain ⟨m, hm, m1, m2, m3, m4, m5, m6⟩ := hN2 h1 d hd hu hrole
      refine .inl ⟨m, hm, m1, m2, ?_, m5, m6⟩
      have hl' := hl
      rw [hu] at hl'
      obtain ⟨b1, b2, b3⟩ := S.settled K hx hl' h2
      have hi := hitem d hd hu b3
      have hsm := rk_small K hx hl'
      have hz : (0 : Int) ≤ rk n ids (linkE L) r c := Int.natCast_nonneg _
      obtain ⟨q1, q2, q3, q4, r', hr', q5, q6⟩ : RealI n ids L d (offerV (bestP (ids x) 6 (B x)).1 (ids x) d.pu) (ageP (ids x) 6 (B x)) := by
        rcases hi.old 11 (Nat.le_refl _) (by omega) with h | h
        · exact h
        · omega
      have hp := (K.ok hd).pu
      rw [m3, m4]
      refine ⟨by rw [q5]; exact K.named _ hr', by rw [q1]; exact K.named _ (K.ok hd).u, (q6.in_ G hr').2, by omega, by rw [q2]; exact hp.1, by rw [q2]; exact hp.2, q3, by omega⟩
/-- Since when, behind one more step at one bridge. -/
theorem since_step (K : Big n ids L) {tk' : Nat → Prop} {W' : List Lt} (S : Sys n ids L now tk B W) (T : Since n now B) {x : Nat} (g : Nat → Pt) (hg : ∀ i, (g i).role = (B x i).role ∧ (g i).since = (B x i).since)
    (S' : Sys n ids L now tk' (updB B x (anewP (ids x) 6 now g)) W') : Since n now (updB B x (anewP (ids x) 6 now g)) := fun y i hy hi => by
  by_cases ev : y = x
  · subst ev
    have hold := T y i hy hi
    have hr1 := fun ht => S.finR_is K ht hy hi
    have hr2 := fun ht => S'.finR_is K ht hy hi
    rw [updB_at] at hr2 ⊢
    rcases anew_since (ids y) 6 now g i with h | h
    · refine ⟨by omega, fun ht => ?_⟩
      by_cases hF : now = 280 + 20 * (n : Int)
      · omega
      · have h1 := hr1 ht
        have h2 := hr2 ht
        have hst : anewP (ids y) 6 now g i = g i := by
          unfold anewP at h2 ⊢
          by_cases c : i < 6 ∧ roleP (ids y) 6 g i ≠ (g i).role
          · rw [if_pos c] at h2
            have h2 : roleP (ids y) 6 g i = finR n ids L y i := h2
            exact absurd (h2.trans (h1.symm.trans (hg i).1.symm)) c.2
          · rw [if_neg c]
        rw [hst, (hg i).2]
        exact hold.2 ht
    · rw [h, (hg i).2]
      exact hold
  · rw [updB_ne _ _ ev]
    exact T y i hy hi
theorem Since.next (T : Since n now B) : Since n (now + 1) B := fun x i hx hi => by
  have h := T x i hx hi
  refine ⟨by omega, fun ht => ?_⟩
  by_cases hF : 280 + 20 * (n : Int) ≤ now
  · exact h.2 hF
  · omega
end
end Go.Proofs.Ytogkminlhjmafaa
